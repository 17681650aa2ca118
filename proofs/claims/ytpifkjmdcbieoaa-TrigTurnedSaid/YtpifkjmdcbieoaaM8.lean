/- Merged texts: QuoF, TameR, ReD, DN, SerD, Whole5, Eighth5, Round5, RegO, Ret2. -/
import Derived.Test.YtpifkjmdcbieoaaM7
import Derived.Deep.DeepCutAuto
import Derived.Test.YtpifkjmdcbieoaaM5
import Derived.Test.YtpifkjmdcbieoaaM4
/- Quo of the landed dd, aS a function: the walk. -/
namespace Go.Proofs.Ytpifkjmdcbieoaa
open Go.RowKit

theorem le_nle {a b : Nat} (h : ¬ a ≤ b) : b ≤ a := Nat.le_of_lt (Nat.lt_of_not_le h)
theorem AddRf.toRk {H L H' L' s1 e1 t1 f1 v s2 e2 g Z : Int} (h : AddRf H L H' L' s1 e1 t1 f1 v s2 e2 g Z) (hi : AddIn H L) (hi' : AddIn H' L') : AddRk H L H' L' s1 e1 t1 f1 v s2 e2 g Z := by
  obtain ⟨h1, h2, h3, h4, h5, h6, h7, h8, h9⟩ := h
  rw [kpH hi.dH, kpH hi'.dH] at h1 h2
  have d1 : kp s1 = s1 := kpH (h1 ▸ rn_dvd (Int.dvd_add hi.dH hi'.dH))
  rw [d1] at h6 h7
  exact ⟨h1, h2, h3, h4, h5, h6, h7, h8, h9⟩
/-- what a quotient of tame numbers is: two kept floats' sum, near the exact one -/
structure QF (H L H' L' Z : Int) : Prop where
  two : ∃ q t, Z = q + kp t ∧ Flt.FL q ∧ Flt.FL t ∧ kp q = q
  zero : H = 0 → Z = 0
  err : H ≠ 0 → (Z * (H' + L') - (H + L) * 2 ^ Flt.uE).natAbs * Flt.K53 * Flt.K53 ≤ 589 * (H.natAbs * 2 ^ Flt.uE)
theorem step_build {o : Oper} {d : Option Nat} {a : Act} {w : World} {K : Act → World → Prop} {Q : Exit → Act → World → Prop} {t : TypeId} {s : Operand} {x v : Value} (hd : o.dst = d) (hop : o.op = .build t #[(0, s)]) (hs : a.eval s = x)
    (hrun : (Instr.build t #[(0, x)]).run Try.prog w = .ok v w) (hK : K (a.put d v) w) : Oper.wp Try.prog o a w K Q := by
  subst hd
  unfold Oper.wp
  simp [execOp, hop, hs, hrun]
  exact hK
theorem build_hi {w : World} {x : Nat} : (Instr.build 30 #[(0, .float .f64 x)]).run Try.prog w = .ok (.agg #[.float .f64 x, .float .f64 0]) w := by simp [go_sem]
theorem load_num {w : World} {A x y : Nat} (h : Two w A x y) : (Instr.loadAt 30 (.pointer (some ⟨A, 0, none⟩))).run Try.prog w = .ok (.agg #[.float .f64 x, .float .f64 y]) w := by
  have c0 := h.c0
  have c1 := h.c1
  simp [go_sem, c0, c1]
def quoPre (i : Nat) : List Nat := match i with | 3 => [2] | 4 => [1, 3] | 5 => [4] | 6 => [0, 5] | 8 => [7, 6] | _ => []
def quoAct (x y u v qw A : Nat) (f : Nat → Value) : Act := { tmps := #[.agg #[.float .f64 x, .float .f64 y], .agg #[.float .f64 u, .float .f64 v], .pointer (some ⟨A, 0, none⟩), .pointer (some ⟨A + 1, 0, none⟩), .pointer (some ⟨A + 1 + 1, 0, none⟩), .float .f64 qw, f 6, .pointer (some ⟨A, 0, none⟩), .float .f64 x, .pointer (some ⟨A + 1, 0, none⟩), .float .f64 u, .float .f64 qw, f 12, f 13, f 14, f 15, f 16, f 17, f 18, undef, undef, undef, undef, undef, undef, undef], defers := [] }
abbrev Pr := Nat → Nat → Prop
def quoPs (x y u v qw : Nat) (M N A : Pr) : Leaves := [(0, 12, fun z => z = .agg #[.float .f64 x, .float .f64 y]), (1, 13, fun z => z = .agg #[.float .f64 u, .float .f64 v]), (2, 14, fun z => z = .float .f64 qw), (3, 15, fun z => z = .agg #[.float .f64 qw, .float .f64 0]), (4, 16, PairV M), (5, 17, PairV N), (6, 18, PairV A)]
def quoBs : List Blk := [⟨7, 6, 8, 18, 6⟩]
theorem quo_apart (x y u v qw : Nat) (M N A : Pr) : Apart (quoPs x y u v qw M N A) quoBs := by
  refine ⟨by simp [quoPs], by simp [quoPs], by simp [quoBs], by simp [quoBs], by simp [quoBs], by simp [quoPs, quoBs], by simp [quoBs], by simp [quoPs, quoBs]⟩
set_option maxHeartbeats 4000000 in
theorem quo_pure (x y u v : Nat) (H L H' L' : Int) (hx : Flt.Num x H) (hy : Flt.Num y L) (hu : Flt.Num u H') (hv : Flt.Num v L') (hT : Flt.TameN H L) (hT' : Flt.TameN H' L') (h' : H' ≠ 0) :
    ∃ s e Z, QF H L H' L' Z ∧ Flt.Num s (Flt.rn Z) ∧ Flt.Num e (Z - Flt.rn Z) ∧
      ∀ w, Calls Try.prog 39 #[.agg #[.float .f64 x, .float .f64 y], .agg #[.float .f64 u, .float .f64 v]] w fun r w' => r = .returned (.agg #[.float .f64 s, .float .f64 e]) ∧ Bel w w' := by
  have sf := run_store_float Try.prog
  have hb' : 2 ^ 930 ≤ H'.natAbs ∧ H'.natAbs < 2 ^ 1220 := by
    rcases hT' with ⟨h0, _⟩ | ⟨h1, h2, _, _⟩
    · exact absurd h0 h'
    · exact ⟨h1, h2⟩
  have ha : H = 0 ∨ (2 ^ 930 ≤ H.natAbs ∧ H.natAbs < 2 ^ 1220) := by
    rcases hT with ⟨h0, _⟩ | ⟨h1, h2, _, _⟩
    · exact Or.inl h0
    · exact Or.inr ⟨h1, h2⟩
  obtain ⟨qw, q, kq, nq, dq⟩ := Flt.div_num (u := 930) (U := 1220) (v := 930) (V := 1220) hx hu ha hb' (by decide) (by decide)
  have hMi := MulIn.quo nq hT hT' h' dq
  have hi := AddIn.tame hx hy hT
  obtain ⟨ms, me, Zm, ⟨P, Q1, Q2, Q3, p, ε, m1, m2, c, f, hK⟩, nms, nme, MC⟩ := mul_pure u v qw 0 H' L' q 0 hu hv nq num_zero_k hMi
  have hn : AddIn (-Flt.rn Zm) (-(Zm - Flt.rn Zm)) := by
    have hn := p_near dq hK.R.hP
    obtain ⟨b1, b2⟩ := near_size hn
    refine AddIn.neg hK ?_ (dbl_pow (a := 1220) (b := 1221) b1 (TameN.up hT).1 (by decide))
    rcases ha with h0 | ⟨h1, _⟩
    · left
      rw [h0] at b1
      simpa using b1
    · exact Or.inr (half (k := 929) (j := 930) (by decide) b2 h1)
  have NC := fun w => neg_any ms me w
  obtain ⟨aS, ae, R, ⟨s1, e1, t1, f1, v1, s2, e2, g, hA'⟩, nas, nae, AC⟩ := add_pure x y (Op.negFloat .f64 ms) (Op.negFloat .f64 me) H L _ _ hx hy (num_neg nms) (num_neg nme) hi.le hi.le2 hn.le hn.le2
  have hA := hA'.toRk hi hn
  have hS : QuoS H L H' L' q P Q1 Q2 Q3 p ε m1 m2 c f Zm s1 e1 t1 f1 v1 s2 e2 g R := ⟨dq, hK, hA⟩
  have hRu : R.natAbs ≤ H.natAbs := by
    rcases ha with h0 | ⟨h1, _⟩
    · rw [(hS.zero hi hn h' h0).2]; exact Nat.zero_le _
    · exact hS.rest hT hi hn h1
  have hrn : (Flt.rn R).natAbs < 2 ^ 1222 := by
    have h1 := rn_le2 R
    have h2 : (Flt.rn R).natAbs ≤ 2 ^ 1221 := dbl_pow (a := 1220) (b := 1221) (y := H.natAbs) (by omega) (TameN.up hT).1 (by decide)
    exact Nat.lt_of_le_of_lt h2 (Flt.two_lt' (a := 1221) (b := 1222) (by decide))
  have hra : Flt.rn R = 0 ∨ (2 ^ 622 ≤ (Flt.rn R).natAbs ∧ (Flt.rn R).natAbs < 2 ^ 1222) := by
    rcases ge_of_dvd (e := 622) (k := 622) (rn_dvd (hA.dvd hi hn).1) (by decide) with h | h
    · exact Or.inl h
    · exact Or.inr ⟨h, hrn⟩
  obtain ⟨tw, t, kt, nt, dt⟩ := Flt.div_num (u := 622) (U := 1222) (v := 930) (V := 1220) nas hu hra hb' (by decide) (by decide)
  have ht : t.natAbs ≤ 2 ^ 1474 := by
    refine Classical.byContradiction fun hc => ?_
    have a1 := Flt.natAbs_uE (Flt.rn R)
    have a2 : (t * H').natAbs = t.natAbs * H'.natAbs := Int.natAbs_mul ..
    have dt2 := dt
    rw [← a1] at dt2
    have e52 : (2 : Nat) ^ 52 = 4503599627370496 := rfl
    rw [e52] at dt2
    have b1 : (t * H').natAbs ≤ 2 * (Flt.rn R * 2 ^ Flt.uE).natAbs := by omega
    rw [a1, a2] at b1
    have := pow_sides2 (a := 1474) (b := 930) (c := 1222) (le_nle hc) hb'.1 hrn b1
    have hu : Flt.uE = 1074 := rfl
    omega
  have hQ : QuoR H L H' L' q P Q1 Q2 Q3 p ε m1 m2 c f Zm s1 e1 t1 f1 v1 s2 e2 g R t (q + kp t) := ⟨hS, dt, rfl⟩
  have hqm : q.natAbs ≤ 2 ^ 1474 := by
    rcases hMi.mH' with h | ⟨_, h⟩
    · rw [h]; exact Nat.zero_le _
    · exact Nat.le_trans (Nat.le_of_lt h) (Flt.two_le (a := mhi) (b := 1474) (by decide))
  have hqk := mild_kp hMi.mH'
  obtain ⟨p6, q6, np6, nq6, S4⟩ := sumk_pure qw tw q t nq nt hqm ht
  rw [hqk] at np6 nq6
  refine ⟨p6, q6, q + kp t, ⟨⟨q, t, rfl, nq.fl, nt.fl, hqk⟩, hQ.zero hi hn h', fun h0 => ?_⟩, np6, nq6, fun w => ?_⟩
  · rcases ha with h | ⟨h1, _⟩
    · exact absurd h h0
    · exact hQ.bound hT hT' hi hn h1
  have MC' : ∀ w, Calls Try.prog 19 #[.agg #[.float .f64 u, .float .f64 v], .agg #[.float .f64 qw, .float .f64 0]] w fun r w' => ∃ s e, r = .returned (.agg #[.float .f64 s, .float .f64 e]) ∧ (s = ms ∧ e = me) ∧ Bel w w' := fun w =>
    (MC w).mono fun _ _ ⟨h1, h5⟩ => ⟨_, _, h1, ⟨rfl, rfl⟩, h5⟩
  have NC' : ∀ s e, (s = ms ∧ e = me) → ∀ w, Calls Try.prog 22 #[.agg #[.float .f64 s, .float .f64 e]] w fun r w' => ∃ s e, r = .returned (.agg #[.float .f64 s, .float .f64 e]) ∧ (s = Op.negFloat .f64 ms ∧ e = Op.negFloat .f64 me) ∧ Bel w w' := fun s e ⟨h1, h2⟩ w => by
    subst h1 h2
    exact (NC w).mono fun _ _ ⟨k1, k2⟩ => ⟨_, _, k1, ⟨rfl, rfl⟩, k2⟩
  have AC' : ∀ s e, (s = Op.negFloat .f64 ms ∧ e = Op.negFloat .f64 me) → ∀ w, Calls Try.prog 20 #[.agg #[.float .f64 x, .float .f64 y], .agg #[.float .f64 s, .float .f64 e]] w fun r w' => ∃ s e, r = .returned (.agg #[.float .f64 s, .float .f64 e]) ∧ (s = aS ∧ e = ae) ∧ Bel w w' := fun s e ⟨h1, h2⟩ w => by
    subst h1 h2
    exact (AC w).mono fun _ _ ⟨k1, k5⟩ => ⟨_, _, k1, ⟨rfl, rfl⟩, k5⟩
  obtain ⟨PM, hPM⟩ : ∃ PM : Pr, PM = fun s e => s = ms ∧ e = me := ⟨_, rfl⟩
  obtain ⟨PN, hPN⟩ : ∃ PN : Pr, PN = fun s e => s = Op.negFloat .f64 ms ∧ e = Op.negFloat .f64 me := ⟨_, rfl⟩
  obtain ⟨PA, hPA⟩ : ∃ PA : Pr, PA = fun s e => s = aS ∧ e = ae := ⟨_, rfl⟩
  have hF : RowKit.Hid (∀ s e, PA s e → s = aS) := Lib.hid (by rw [hPA]; rintro s e ⟨h, _⟩; exact h)
  have hC : RowKit.Hid ((∀ w, Calls Try.prog 19 #[.agg #[.float .f64 u, .float .f64 v], .agg #[.float .f64 qw, .float .f64 0]] w fun r w' => ∃ s e, r = .returned (.agg #[.float .f64 s, .float .f64 e]) ∧ PM s e ∧ Bel w w') ∧ (∀ s e, PM s e → ∀ w, Calls Try.prog 22 #[.agg #[.float .f64 s, .float .f64 e]] w fun r w' => ∃ s e, r = .returned (.agg #[.float .f64 s, .float .f64 e]) ∧ PN s e ∧ Bel w w') ∧ (∀ s e, PN s e → ∀ w, Calls Try.prog 20 #[.agg #[.float .f64 x, .float .f64 y], .agg #[.float .f64 s, .float .f64 e]] w fun r w' => ∃ s e, r = .returned (.agg #[.float .f64 s, .float .f64 e]) ∧ PA s e ∧ Bel w w')) := Lib.hid (by rw [hPM, hPN, hPA]; exact ⟨MC', NC', AC'⟩)
  have o1 := fun w => run_fquo (P := Try.prog) 28 kq w
  have o2 := fun w => run_fquo (P := Try.prog) 28 kt w
  clear MC NC AC MC' NC' AC' hPM hPN hPA hQ hS hA hA' hn hK hRu hrn hra ht hqm hqk hMi hi ha hb' dq dt hx hy hu hv hT hT' h' nq kq nt kt np6 nq6 nas nae nms nme
  go_enter Try.func39, Try.ntmps39
  go_upto_region 2 with fail
  obtain ⟨w1, hw1⟩ : ∃ w1, w1 = ((w.alloc (Obj.cells #[.float .f64 x, .float .f64 y] 30)).alloc (Obj.cells #[.float .f64 u, .float .f64 v] 30)).alloc (Obj.cells #[.float .f64 0, .float .f64 0] 30) := ⟨_, rfl⟩
  have hB1 : Bel w w1 := by rw [hw1]; exact (((Bel.refl w).alloc _).alloc _).alloc _
  have tx : Two w1 w.heap.size x y := by rw [hw1]; exact ((Two.new w x y _).al _).al _
  have tu : Two w1 (w.heap.size + 1) u v := by rw [hw1]; exact (Two.newN _ u v _ _ (by simp)).al _
  have tr : Two w1 (w.heap.size + 1 + 1) 0 0 := by rw [hw1]; exact Two.newN _ 0 0 _ _ (by simp)
  rw [← hw1]
  obtain ⟨A, hA⟩ : ∃ A, A = w.heap.size := ⟨_, rfl⟩
  rw [← hA] at tx tu tr ⊢
  have hAw : w.heap.size ≤ A + 1 + 1 := by omega
  have hw1H := Lib.hid (And.intro hw1 hA)
  clear hw1 hA
  go_cut [6] from 12 to 18 (fun p wx => ∃ (X s e : Nat), p = .pointer (some ⟨X, 0, none⟩) ∧ Two wx X s e ∧ PA s e ∧ Bel w1 wx)
  case first =>
    refine wp_region_gv (pre := quoPre) (quoAct x y u v qw A) (fun _ => undef) (by kernel_rfl) (by decide +kernel) (quoPs x y u v qw PM PN PA) quoBs (quo_apart x y u v qw PM PN PA) ?_ ⟨by simp [quoPs], by simp [quoBs]⟩ ?_
    · intro i hi
      have hi : i < 9 := hi
      match i, hi with
      | 0, _ => exact .value 12 (fun z => z = .agg #[.float .f64 x, .float .f64 y]) (by simp [quoPs]) fun f w hB h => wpOp_go rfl rfl (step_load (d := some 12) rfl rfl rfl (load_num (tx.by hB)) ⟨_, rfl, rfl, Bel.refl _⟩)
      | 1, _ => exact .value 13 (fun z => z = .agg #[.float .f64 u, .float .f64 v]) (by simp [quoPs]) fun f w hB h => wpOp_go rfl rfl (step_load (d := some 13) rfl rfl rfl (load_num (tu.by hB)) ⟨_, rfl, rfl, Bel.refl _⟩)
      | 2, _ => exact .value 14 (fun z => z = .float .f64 qw) (by simp [quoPs]) fun f w hB h => wpOp_go rfl rfl (step_move (d := some 14) rfl (Or.inl rfl) rfl ⟨_, rfl, rfl, Bel.refl _⟩)
      | 3, _ => exact .value 15 (fun z => z = .agg #[.float .f64 qw, .float .f64 0]) (by simp [quoPs]) fun f w hB h => wpOp_go rfl rfl (step_build (d := some 15) rfl rfl (h (2, 14, (fun z => z = .float .f64 qw)) (by simp [quoPs]) (by simp [quoPre])) build_hi ⟨_, rfl, rfl, Bel.refl _⟩)
      | 4, _ => exact .value 16 (PairV (PM)) (by simp [quoPs]) fun f w hB h => wpOp_go rfl rfl (step_call2 (d := some 16) rfl rfl (h (1, 13, fun z => z = .agg #[.float .f64 u, .float .f64 v]) (by simp [quoPs]) (by simp [quoPre])) (h (3, 15, fun z => z = .agg #[.float .f64 qw, .float .f64 0]) (by simp [quoPs]) (by simp [quoPre])) (by kernel_rfl) ((hC.out.1 _).mono fun _ _ ⟨s, e, k1, k2, k3⟩ => ⟨_, k1, _, rfl, ⟨s, e, rfl, k2⟩, k3⟩))
      | 5, _ =>
        refine .value 17 (PairV (PN)) (by simp [quoPs]) fun f w hB h => ?_
        obtain ⟨s, e, hv, hp⟩ := h (4, 16, PairV (PM)) (by simp [quoPs]) (by simp [quoPre])
        exact wpOp_go rfl rfl (step_call1 (d := some 17) rfl rfl hv (by kernel_rfl) ((hC.out.2.1 s e hp _).mono fun _ _ ⟨s, e, k1, k2, k3⟩ => ⟨_, k1, _, rfl, ⟨s, e, rfl, k2⟩, k3⟩))
      | 6, _ =>
        refine .value 18 (PairV (PA)) (by simp [quoPs]) fun f w hB h => ?_
        obtain ⟨s, e, hv, hp⟩ := h (5, 17, PairV (PN)) (by simp [quoPs]) (by simp [quoPre])
        exact wpOp_go rfl rfl (step_call2 (d := some 18) rfl rfl (h (0, 12, fun z => z = .agg #[.float .f64 x, .float .f64 y]) (by simp [quoPs]) (by simp [quoPre])) hv (by kernel_rfl) ((hC.out.2.2 s e hp _).mono fun _ _ ⟨s, e, k1, k2, k3⟩ => ⟨_, k1, _, rfl, ⟨s, e, rfl, k2⟩, k3⟩))
      | 7, _ => exact .alloc ⟨7, 6, 8, 18, 6⟩ (by simp [quoBs]) rfl 30 fun f w K hK => wpOp_go rfl rfl (step_alloc (d := some 6) rfl rfl hK)
      | 8, _ => exact .store ⟨7, 6, 8, 18, 6⟩ (by simp [quoBs]) rfl (by simp [quoPre]) (by simp [quoPre]) (by simp [quoPs]; rintro x ⟨s, e, hv, _⟩; exact ⟨s, e, hv⟩) fun f w K X a b α β hX hv hT hK => wpOp_go rfl rfl (step_store (d := none) rfl rfl hX hv hT hK)
    · intro f wx hB h hF
      obtain ⟨X, α, β, r1, r2, r3, r4⟩ := hF.1 ⟨7, 6, 8, 18, 6⟩ (by simp [quoBs])
      obtain ⟨s, e, hv, hp⟩ := h (6, 18, PairV (PA)) (by simp [quoPs])
      have r4 : f 18 = _ := r4
      have hv : f 18 = _ := hv
      rw [hv] at r4
      cases r4
      have r1 : f 6 = _ := r1
      unfold quoAct
      rw [r1]
      go_wp2
      go_meet
      exact ⟨X, α, β, rfl, r3, hp, hB⟩
  case rest =>
    obtain ⟨X, s, e, rfl, tX, hp, hB⟩ := hcut
    obtain rfl := hF.out s e hp
    have tu := tu.by hB
    have tr := tr.by hB
    have hBd := hB1.trans hB
    obtain ⟨R, hR⟩ : ∃ R, R = A + 1 + 1 := ⟨_, rfl⟩
    rw [← hR] at tr hAw ⊢
    have s0 := tX.c0
    have u0 := tu.c0
    clear hw1H hB1 hB tX tu tx hp hC hF hR
    go_wp2_with fail
    refine (S4 _).mono ?_; rintro r w3 ⟨rfl, hB3⟩
    have tr3 := tr.by hB3
    obtain ⟨m1, m2⟩ := tr3.mid p6
    obtain ⟨d0, d1, _, _⟩ := tr3.set p6 q6
    obtain ⟨c0, c1, g0, g1⟩ := tr3
    have hBw := hBd.trans hB3
    clear S4 s0 u0
    go_wp2
    refine bodyPost_ret (by simp [results, go_sem, d0, d1]; try rfl) rfl ?_
    exact ⟨rfl, (hBw.setCell hAw _).setCell hAw _⟩
end Go.Proofs.Ytpifkjmdcbieoaa

/- Numbers of two floats over the rationals: when a sum of two kept floats is tame; errors of sums, products and quotients in units of 2^-120. No program is named here. -/
namespace Go.Proofs.Ytpifkjmdcbieoaa
open Go.RowKit

/-- a float that is kept -/
structure KF (n : Int) : Prop where
  fl : Flt.FL n
  k : n = 0 ∨ 2 ^ 674 ≤ n.natAbs
theorem KF.kp {n : Int} (h : Flt.FL n) : KF (kp n) := by
  rcases kp_or n with ⟨h1, _⟩ | ⟨h1, h2⟩
  · rw [h1]; exact ⟨Flt.fl_zero, Or.inl rfl⟩
  · rw [h1]; rw [q400_eq] at h2; exact ⟨h, Or.inr h2⟩
theorem two_dbl {j k : Nat} (h : j = k + 1) : 2 ^ j = 2 ^ k * 2 := by rw [h, Nat.pow_succ]
theorem lo_side {a b : Int} (fa : Flt.FL a) (hb : b.natAbs < 2 ^ 800) (hz : 2 ^ 930 ≤ (a + b).natAbs) : Flt.rn (a + b) = a := by
  have hN := (Flt.rn_near (a + b)).le a fa
  have hg := rn_ge2 (a + b)
  have p1 := two_dbl (j := 930) (k := 929) (by decide)
  have p2 := two_dbl (j := 801) (k := 800) (by decide)
  have p3 := Flt.two_le (a := 800) (b := 929) (by decide)
  have key : ∀ r : Int, r.natAbs < 2 ^ 801 → (2 : Int) ^ 877 ∣ r → r = 0 := fun r h1 h2 => by
    rcases ge_of_dvd (e := 877) (k := 801) h2 (by decide) with h | h
    · exact h
    · exact absurd h1 (Nat.not_lt_of_le h)
  have da : 2 ^ 929 ≤ a.natAbs → (2 : Int) ^ 877 ∣ a := fun h => fl_dvd_of (e := 877) (k := 929) (by decide) fa (Or.inr h)
  have dr : 2 ^ 929 ≤ (Flt.rn (a + b)).natAbs → (2 : Int) ^ 877 ∣ Flt.rn (a + b) := fun h => fl_dvd_of (e := 877) (k := 929) (by decide) (Flt.rn_near _).fl (Or.inr h)
  obtain ⟨r, hr⟩ : ∃ r, r = Flt.rn (a + b) := ⟨_, rfl⟩
  rw [← hr] at hN hg dr ⊢
  obtain ⟨A, hA⟩ : ∃ A, A = 2 ^ 800 := ⟨_, rfl⟩
  obtain ⟨B, hB⟩ : ∃ B, B = 2 ^ 801 := ⟨_, rfl⟩
  obtain ⟨C, hC⟩ : ∃ C, C = 2 ^ 929 := ⟨_, rfl⟩
  obtain ⟨D, hD⟩ : ∃ D, D = 2 ^ 930 := ⟨_, rfl⟩
  rw [← hA] at hb p2 p3
  rw [← hB] at p2 key
  rw [← hC] at p1 p3 da dr
  rw [← hD] at hz p1
  have k1 := da (by omega)
  have k2 := dr (by omega)
  have := key (r - a) (by omega) (Int.dvd_sub k2 k1)
  omega
theorem lo_kept {a b : Int} (ha : KF a) (hb : KF b) (hz : 2 ^ 930 ≤ (a + b).natAbs) : a + b - Flt.rn (a + b) = 0 ∨ 2 ^ 674 ≤ (a + b - Flt.rn (a + b)).natAbs := by
  by_cases h1 : b.natAbs < 2 ^ 800
  · rw [lo_side ha.fl h1 hz, show a + b - a = b from by omega]
    exact hb.k
  · by_cases h2 : a.natAbs < 2 ^ 800
    · have := lo_side (a := b) (b := a) hb.fl h2 (by rw [Int.add_comm]; exact hz)
      rw [Int.add_comm] at this
      rw [this, show a + b - b = a from by omega]
      exact ha.k
    · have d1 := fl_dvd_of (e := 748) (k := 800) (by decide) ha.fl (Or.inr (Nat.le_of_not_lt h2))
      have d2 := fl_dvd_of (e := 748) (k := 800) (by decide) hb.fl (Or.inr (Nat.le_of_not_lt h1))
      have d := Int.dvd_add d1 d2
      exact ge_of_dvd (e := 748) (k := 674) (Int.dvd_sub d (rn_dvd d)) (by decide)
theorem rn_again (Z : Int) : Flt.rn (Flt.rn Z + (Z - Flt.rn Z)) = Flt.rn Z := by rw [show Flt.rn Z + (Z - Flt.rn Z) = Z from by omega]
theorem tame_two {a b : Int} (ha : KF a) (hb : KF b) (h1 : 2 ^ 931 ≤ (a + b).natAbs) (h2 : (a + b).natAbs < 2 ^ 1218) : Flt.TameN (Flt.rn (a + b)) (a + b - Flt.rn (a + b)) := by
  have p1 := two_dbl (j := 931) (k := 930) (by decide)
  have p2 := two_dbl (j := 1219) (k := 1218) (by decide)
  have p3 := Flt.two_le (a := 1219) (b := 1220) (by decide)
  have hg := rn_ge2 (a + b)
  have hl := rn_le2 (a + b)
  have hk := lo_kept ha hb (Nat.le_trans (Flt.two_le (a := 930) (b := 931) (by decide)) h1)
  refine Or.inr ⟨?_, ?_, rn_again _, hk⟩
  · obtain ⟨A, hA⟩ : ∃ A, A = 2 ^ 930 := ⟨_, rfl⟩
    obtain ⟨B, hB⟩ : ∃ B, B = 2 ^ 931 := ⟨_, rfl⟩
    rw [← hA] at p1 ⊢
    rw [← hB] at p1 h1
    omega
  · obtain ⟨A, hA⟩ : ∃ A, A = 2 ^ 1218 := ⟨_, rfl⟩
    obtain ⟨B, hB⟩ : ∃ B, B = 2 ^ 1219 := ⟨_, rfl⟩
    obtain ⟨C, hC⟩ : ∃ C, C = 2 ^ 1220 := ⟨_, rfl⟩
    rw [← hA] at p2 h2
    rw [← hB] at p2 p3
    rw [← hC] at p3 ⊢
    omega
end Go.Proofs.Ytpifkjmdcbieoaa

/- Numbers of two floats over the rationals: errors in units of 2^-120. No program is named here. -/
namespace Go.Proofs.Ytpifkjmdcbieoaa
open Go.RowKit

/-- 2^1074 -/
noncomputable def vR : Rat := (P954 : Rat) * uR
theorem vR_pos : 0 < vR := Rat.mul_pos P954_posR uR_pos
theorem reR_v (N : Int) : reR N * vR = (N : Rat) := by
  have h1 := reR_mul N
  have h2 := valR_mul N
  unfold vR
  rw [← h2, ← h1]; grind
theorem cancelR {a b V : Rat} (h : 0 < V) (e : a * V = b * V) : a = b := by
  have h1 := nonneg_of h (d := a - b) (by grind)
  have h2 := nonneg_of h (d := b - a) (by grind)
  grind
theorem reR_of {N : Int} {r : Rat} (h : (N : Rat) = r * vR) : reR N = r := cancelR vR_pos (by rw [reR_v, h])
theorem v_natE : 2 ^ Flt.uE = P954 * one120 := by
  have h : Flt.uE = e954 + 120 := rfl
  rw [h, P954_eq, one120_eq, Nat.pow_add]
theorem v_nat : ((2 ^ Flt.uE : Nat) : Rat) = vR := by
  rw [v_natE]
  unfold vR uR
  exact_mod_cast rfl
theorem v_int : (((2 : Int) ^ Flt.uE : Int) : Rat) = vR := by
  rw [← v_nat]
  have : (2 : Int) ^ Flt.uE = ((2 ^ Flt.uE : Nat) : Int) := (Int.natCast_pow 2 Flt.uE).symm
  rw [this]; rfl
theorem reR_add (M N : Int) : reR (M + N) = reR M + reR N := reR_of (by
  have : ((M + N : Int) : Rat) = (M : Rat) + (N : Rat) := by exact_mod_cast rfl
  rw [this, ← reR_v M, ← reR_v N]; grind)
theorem reR_neg (M : Int) : reR (-M) = - reR M := reR_of (by
  have : ((-M : Int) : Rat) = -(M : Rat) := by exact_mod_cast rfl
  rw [this, ← reR_v M]; grind)
theorem reR_zero : reR 0 = 0 := reR_of (by
  have : ((0 : Int) : Rat) = 0 := by exact_mod_cast rfl
  rw [this]; grind)
theorem reR_sub (M N : Int) : reR (M - N) = reR M - reR N := by
  have h : M - N = M + -N := by omega
  rw [h, reR_add, reR_neg]; grind
theorem re_prod {A B S : Int} (h : A * B = S * 2 ^ Flt.uE) : reR A * reR B = reR S := by
  have h2 : ((A * B : Int) : Rat) = ((S * 2 ^ Flt.uE : Int) : Rat) := by rw [h]
  have e1 : ((A * B : Int) : Rat) = (A : Rat) * (B : Rat) := by push_cast; rfl
  have e2 : ((S * 2 ^ Flt.uE : Int) : Rat) = (S : Rat) * (((2 : Int) ^ Flt.uE : Int) : Rat) := Rat.intCast_mul _ _
  rw [e1, e2, v_int, ← reR_v A, ← reR_v B, ← reR_v S] at h2
  have p := vR_pos
  generalize vR = V at *
  refine cancelR p (cancelR p ?_)
  grind
/-- K53^2 in units -/
theorem K53_sq : (Flt.K53 : Rat) * (Flt.K53 : Rat) * 16384 = uR := by
  have h : Flt.K53 * Flt.K53 * 16384 = one120 := by rw [Flt.K53_eq]; decide
  have : ((Flt.K53 * Flt.K53 * 16384 : Nat) : Rat) = ((one120 : Nat) : Rat) := by rw [h]
  unfold uR
  rw [← this]
  push_cast; rfl
theorem nat_le (n : Int) : (n : Rat) ≤ ((n.natAbs : Nat) : Rat) ∧ -(n : Rat) ≤ ((n.natAbs : Nat) : Rat) := by
  constructor
  · have : n ≤ ((n.natAbs : Nat) : Int) := by omega
    have h : (n : Rat) ≤ (((n.natAbs : Nat) : Int) : Rat) := by exact_mod_cast this
    exact h
  · have : -n ≤ ((n.natAbs : Nat) : Int) := by omega
    have h : ((-n : Int) : Rat) ≤ (((n.natAbs : Nat) : Int) : Rat) := by exact_mod_cast this
    have e : ((-n : Int) : Rat) = -(n : Rat) := by exact_mod_cast rfl
    rw [← e]; exact h
/-- within x, either side -/
def Wi (a x : Rat) : Prop := -x ≤ a ∧ a ≤ x
theorem nat_le2 {n : Int} {x : Rat} (h : Wi (n : Rat) x) : ((n.natAbs : Nat) : Rat) ≤ x := by
  have : n = ((n.natAbs : Nat) : Int) ∨ n = -((n.natAbs : Nat) : Int) := by omega
  rcases this with e | e
  · have e2 : (n : Rat) = (((n.natAbs : Nat) : Int) : Rat) := by rw [← e]
    have h2 := h.2
    rw [e2] at h2; exact h2
  · have e2 : (n : Rat) = ((-((n.natAbs : Nat) : Int) : Int) : Rat) := by rw [← e]
    have e3 : ((-((n.natAbs : Nat) : Int) : Int) : Rat) = -(((n.natAbs : Nat) : Int) : Rat) := by exact_mod_cast rfl
    have h2 := h.1
    rw [e2, e3] at h2
    have h3 : (((n.natAbs : Nat) : Int) : Rat) ≤ x := by grind
    exact h3
theorem re_abs {H : Int} {x : Rat} (h : Wi (reR H) x) : ((H.natAbs : Nat) : Rat) ≤ x * vR := by
  refine nat_le2 ?_
  have p := vR_pos
  have m1 := Rat.mul_nonneg (a := x - reR H) (b := vR) (by have := h.2; grind) (by grind)
  have m2 := Rat.mul_nonneg (a := x + reR H) (b := vR) (by have := h.1; grind) (by grind)
  have e := reR_v H
  constructor <;> grind
/-- an error bounded by a part of a number -/
theorem re_bound {D : Int} {c M m : Nat} {x y : Rat} (h : D.natAbs * Flt.K53 * Flt.K53 ≤ c * M + m) (hM : (M : Rat) ≤ x * vR) (hm : (m : Rat) ≤ y * vR) : Wi (reR D * uR) ((c : Rat) * 16384 * x + 16384 * y) := by
  have q : ((D.natAbs * Flt.K53 * Flt.K53 : Nat) : Rat) ≤ ((c * M + m : Nat) : Rat) := by exact_mod_cast h
  have e1 : ((D.natAbs * Flt.K53 * Flt.K53 : Nat) : Rat) = ((D.natAbs : Nat) : Rat) * (Flt.K53 : Rat) * (Flt.K53 : Rat) := by push_cast; rfl
  have e2 : ((c * M + m : Nat) : Rat) = (c : Rat) * (M : Rat) + (m : Rat) := by push_cast; rfl
  rw [e1, e2] at q
  obtain ⟨a1, a2⟩ := nat_le D
  rw [← reR_v D] at a1 a2
  have hc := natR c
  have hk := natR Flt.K53
  have hkk := Rat.mul_nonneg hk hk
  have hK := K53_sq
  have p := vR_pos
  have m1 := Rat.mul_nonneg (a := (c : Rat)) (b := x * vR - (M : Rat)) hc (by grind)
  generalize reR D = d at *
  generalize ((D.natAbs : Nat) : Rat) = n at *
  generalize (Flt.K53 : Rat) = K at *
  generalize (c : Rat) = C at *
  generalize (M : Rat) = Mr at *
  generalize (m : Rat) = mr at *
  generalize vR = V at *
  have m2 := Rat.mul_nonneg (a := n - d * V) (b := K * K) (by grind) hkk
  have m3 := Rat.mul_nonneg (a := n + d * V) (b := K * K) (by grind) hkk
  have k1 := nonneg_of p (d := C * x + y - d * (K * K)) (by grind)
  have k2 := nonneg_of p (d := C * x + y + d * (K * K)) (by grind)
  rw [← hK]
  clear e1 e2 h hM hm q m1 m2 m3 a1 a2 hK
  constructor
  · show -(C * 16384 * x + 16384 * y) ≤ d * (K * K * 16384)
    grind
  · show d * (K * K * 16384) ≤ C * 16384 * x + 16384 * y
    grind
theorem re_bound0 {D : Int} {c M : Nat} {x : Rat} (h : D.natAbs * Flt.K53 * Flt.K53 ≤ c * M) (hM : (M : Rat) ≤ x * vR) : Wi (reR D * uR) ((c : Rat) * 16384 * x) := by
  have p := vR_pos
  have z : ((0 : Nat) : Rat) = 0 := by exact_mod_cast rfl
  obtain ⟨a, b⟩ := re_bound (m := 0) (y := 0) h hM (by rw [z]; grind)
  constructor <;> grind
theorem Wi.mono {a x y : Rat} (h : Wi a x) (k : x ≤ y) : Wi a y := ⟨by have := h.1; grind, by have := h.2; grind⟩
theorem Wi.neg {a x : Rat} (h : Wi a x) : Wi (-a) x := ⟨by have := h.2; grind, by have := h.1; grind⟩
theorem Wi.nn {a x : Rat} (h : Wi a x) : 0 ≤ x := by have := h.1; have := h.2; grind
theorem Wi.mul {a b x y : Rat} (h : Wi a x) (k : Wi b y) : Wi (a * b) (x * y) := within_mul h.1 h.2 k.1 k.2
theorem Wi.inU {e a b : Rat} (h : Wi ((a - b) * uR) e) : InU e a b := ⟨h.1, h.2⟩
/-- the first part of a neat number -/
theorem neat_hi {H L : Int} (h : Flt.rn (H + L) = H) : 31 * H.natAbs ≤ 32 * (H + L).natAbs := by
  have h1 := Flt.lo_le h
  have h2 := Nat.mul_le_mul_left L.natAbs K53_k
  omega
theorem hi_re {H L : Int} {x : Rat} (h : Flt.rn (H + L) = H) (hx : Wi (reR (H + L)) x) : ((H.natAbs : Nat) : Rat) ≤ 32 / 31 * x * vR := by
  have h1 := re_abs hx
  have h2 := neat_hi h
  have q : ((31 * H.natAbs : Nat) : Rat) ≤ ((32 * (H + L).natAbs : Nat) : Rat) := by exact_mod_cast h2
  have e1 : ((31 * H.natAbs : Nat) : Rat) = 31 * ((H.natAbs : Nat) : Rat) := by push_cast; rfl
  have e2 : ((32 * (H + L).natAbs : Nat) : Rat) = 32 * (((H + L).natAbs : Nat) : Rat) := by push_cast; rfl
  rw [e1, e2] at q
  grind
end Go.Proofs.Ytpifkjmdcbieoaa

/- Sums, products and quotients of the landed dd, as functions, over the rationals: errors in units of 2^-120. -/
namespace Go.Proofs.Ytpifkjmdcbieoaa
open Go.RowKit

/-- a neat number in words, of a value -/
structure NP (x y : Nat) (r : Rat) : Prop where
  ex : ∃ H L, Flt.Num x H ∧ Flt.Num y L ∧ Flt.rn (H + L) = H ∧ H.natAbs ≤ 2 ^ 1240 ∧ reR (H + L) = r
/-- a tame one -/
structure DN (x y : Nat) (r : Rat) : Prop where
  ex : ∃ H L, Flt.Num x H ∧ Flt.Num y L ∧ Flt.TameN H L ∧ reR (H + L) = r
def c140 : Nat := 1393796574908163946345982392040522594123776
def LowR (z : Rat) : Prop := z = 0 ∨ 1 / (c140 : Rat) ≤ z ∨ z ≤ -(1 / (c140 : Rat))
def e934 : Nat := 934
theorem v_934 : 2 ^ Flt.uE = 2 ^ e934 * c140 := by
  have h : Flt.uE = e934 + 140 := rfl
  have h2 : c140 = 2 ^ 140 := by decide
  rw [h, h2, Nat.pow_add]
theorem c140_pos : (0 : Rat) < (c140 : Rat) := by exact_mod_cast (show 0 < c140 by decide)
theorem low_re {Z : Int} (h : 1 / (c140 : Rat) ≤ reR Z ∨ reR Z ≤ -(1 / (c140 : Rat))) : 2 ^ e934 ≤ Z.natAbs := by
  obtain ⟨N, hN⟩ : ∃ N, N = 2 ^ e934 := ⟨_, rfl⟩
  have h1 := v_934
  rw [← hN] at h1 ⊢
  have h2 := v_nat
  rw [h1] at h2
  have e2 : ((N * c140 : Nat) : Rat) = (N : Rat) * (c140 : Rat) := by push_cast; rfl
  rw [e2] at h2
  obtain ⟨a1, a2⟩ := nat_le Z
  rw [← reR_v Z, ← h2] at a1 a2
  have p := c140_pos
  have n0 := natR N
  have key : (N : Rat) ≤ ((Z.natAbs : Nat) : Rat) := by
    have hc : (1 / (c140 : Rat)) * (c140 : Rat) = 1 := by grind
    generalize reR Z = z at *
    generalize ((Z.natAbs : Nat) : Rat) = n at *
    generalize (1 / (c140 : Rat)) = i at *
    generalize (c140 : Rat) = c at *
    generalize (N : Rat) = M at *
    have hM := Rat.mul_nonneg n0 (show (0 : Rat) ≤ c by grind)
    have hc2 : i * (M * c) = M := by
      have : i * (M * c) = M * (i * c) := by grind
      rw [this, hc]; grind
    clear e2 h1 hN h2
    rcases h with h | h
    · have m := Rat.mul_nonneg (a := z - i) (b := M * c) (by grind) hM
      grind
    · have m := Rat.mul_nonneg (a := -z - i) (b := M * c) (by grind) hM
      grind
  exact_mod_cast key
def c90 : Nat := 1237940039285380274899124224
def c100 : Nat := 1267650600228229401496703205376
theorem up_re {Z : Int} (h : Wi (reR Z) (c100 : Rat)) : Z.natAbs ≤ 2 ^ 1174 := by
  have h1 := re_abs h
  rw [← v_nat] at h1
  have e2 : ((c100 * 2 ^ Flt.uE : Nat) : Rat) = (c100 : Rat) * ((2 ^ Flt.uE : Nat) : Rat) := Rat.natCast_mul _ _
  rw [← e2] at h1
  have h2 : Z.natAbs ≤ c100 * 2 ^ Flt.uE := by exact_mod_cast h1
  have h3 : c100 = 2 ^ 100 := by decide
  rw [h3, ← Nat.pow_add] at h2
  exact Nat.le_trans h2 (Flt.two_le (a := 100 + Flt.uE) (b := 1174) (by decide))
theorem NP.make {s e : Nat} {Z : Int} (hs : Flt.Num s (Flt.rn Z)) (he : Flt.Num e (Z - Flt.rn Z)) (hu : Wi (reR Z) (c100 : Rat)) : NP s e (reR Z) := by
  refine ⟨_, _, hs, he, rn_again Z, ?_, by rw [show Flt.rn Z + (Z - Flt.rn Z) = Z from by omega]⟩
  exact dbl_pow (a := 1174) (b := 1240) (rn_le2 Z) (up_re hu) (by decide)
theorem DN.make {s e : Nat} {Z a b : Int} (hs : Flt.Num s (Flt.rn Z)) (he : Flt.Num e (Z - Flt.rn Z)) (hZ : Z = a + b) (ha : KF a) (hb : KF b) (hu : Wi (reR Z) (c100 : Rat)) (hl : LowR (reR Z)) : DN s e (reR Z) := by
  refine ⟨_, _, hs, he, ?_, by rw [show Flt.rn Z + (Z - Flt.rn Z) = Z from by omega]⟩
  rcases hl with h | h
  · have h0 : Z = 0 := by
      have h1 := reR_v Z
      rw [h] at h1
      have h2 : (Z : Rat) = ((0 : Int) : Rat) := by
        have : ((0 : Int) : Rat) = 0 := by exact_mod_cast rfl
        rw [this, ← h1]; grind
      exact_mod_cast h2
    left
    rw [h0, Flt.rn_zero]
    exact ⟨rfl, by omega⟩
  · have h1 := low_re h
    have h2 := up_re hu
    rw [hZ] at h1 h2 ⊢
    exact tame_two ha hb (Nat.le_trans (Flt.two_le (a := 931) (b := e934) (by decide)) h1) (Nat.lt_of_le_of_lt h2 (Flt.two_lt' (a := 1174) (b := 1218) (by decide)))
theorem DN.np {x y : Nat} {r : Rat} (h : DN x y r) : NP x y r := by
  obtain ⟨H, L, h1, h2, h3, h4⟩ := h.ex
  exact ⟨H, L, h1, h2, TameN.rn h3, Nat.le_trans (TameN.up h3).1 (Flt.two_le (a := 1220) (b := 1240) (by decide)), h4⟩
theorem NP.neg {x y : Nat} {r : Rat} (h : NP x y r) : NP (Op.negFloat .f64 x) (Op.negFloat .f64 y) (-r) := by
  obtain ⟨H, L, h1, h2, h3, h4, h5⟩ := h.ex
  have e : -H + -L = -(H + L) := by omega
  exact ⟨-H, -L, num_neg h1, num_neg h2, by rw [e, Flt.rn_neg, h3], by rw [Int.natAbs_neg]; exact h4, by rw [e, reR_neg, h5]⟩
theorem TameN.neg {H L : Int} (h : Flt.TameN H L) : Flt.TameN (-H) (-L) := by
  have e : -H + -L = -(H + L) := by omega
  rcases h with ⟨h1, h2⟩ | ⟨h1, h2, h3, h4⟩
  · exact Or.inl ⟨by omega, by omega⟩
  · refine Or.inr ⟨by rw [Int.natAbs_neg]; exact h1, by rw [Int.natAbs_neg]; exact h2, by rw [e, Flt.rn_neg, h3], ?_⟩
    rcases h4 with h4 | h4
    · left; omega
    · right; rw [Int.natAbs_neg]; exact h4
theorem DN.neg {x y : Nat} {r : Rat} (h : DN x y r) : DN (Op.negFloat .f64 x) (Op.negFloat .f64 y) (-r) := by
  obtain ⟨H, L, h1, h2, h3, h5⟩ := h.ex
  have e : -H + -L = -(H + L) := by omega
  exact ⟨-H, -L, num_neg h1, num_neg h2, TameN.neg h3, by rw [e, reR_neg, h5]⟩
theorem wi_abs {H : Int} {x : Rat} (h : ((H.natAbs : Nat) : Rat) ≤ x * vR) : Wi (reR H) x := by
  obtain ⟨a1, a2⟩ := nat_le H
  rw [← reR_v H] at a1 a2
  have p := vR_pos
  have k1 := nonneg_of p (d := x - reR H) (by grind)
  have k2 := nonneg_of p (d := x + reR H) (by grind)
  exact ⟨by grind, by grind⟩
theorem uR_val' : (c100 : Rat) ≤ uR * (1 / 1000000) := by
  have h : c100 * 1000000 ≤ one120 := by decide
  have q : ((c100 * 1000000 : Nat) : Rat) ≤ ((one120 : Nat) : Rat) := by exact_mod_cast h
  have e : ((c100 * 1000000 : Nat) : Rat) = (c100 : Rat) * 1000000 := by push_cast; rfl
  rw [e] at q
  unfold uR; grind
theorem c90_c100 : (c90 : Rat) * 1000 ≤ (c100 : Rat) := by
  have h : c90 * 1000 ≤ c100 := by decide
  have q : ((c90 * 1000 : Nat) : Rat) ≤ ((c100 : Nat) : Rat) := by exact_mod_cast h
  have e : ((c90 * 1000 : Nat) : Rat) = (c90 : Rat) * 1000 := by push_cast; rfl
  rwa [e] at q
/-- what is near something not too great is not too great -/
theorem near_up {e z x X : Rat} (h : InU e z x) (hx : Wi x X) (hX : X ≤ (c90 : Rat)) (he : e ≤ 10000000 * X + 1000000) : Wi z (c100 : Rat) := by
  have p := uR_pos
  have b := uR_big
  have c := c90_c100
  have n := hx.nn
  have h1 := h.lo
  have h2 := h.hi
  have u := uR_val'
  have t : (1 : Rat) ≤ (c90 : Rat) := by exact_mod_cast (show 1 ≤ c90 by decide)
  have x1 := hx.1
  have x2 := hx.2
  have m := Rat.mul_nonneg (a := uR - 1000000) (b := X + 1) (by grind) (by grind)
  generalize (c90 : Rat) = C at *
  generalize (c100 : Rat) = D at *
  generalize uR = u at *
  have k1 := nonneg_of p (d := 11 * X + 11 - (z - x)) (by grind)
  have k2 := nonneg_of p (d := 11 * X + 11 + (z - x)) (by grind)
  exact ⟨by grind, by grind⟩
theorem mul_d {x y u v : Nat} {a b A B : Rat} (h : DN x y a) (k : DN u v b) (hA : Wi a A) (hB : Wi b B) (hAB : A * B ≤ (c90 : Rat)) :
    ∃ s e z, NP s e z ∧ (∀ A B, Wi a A → Wi b B → InU (1140000 * (A * B)) z (a * b)) ∧ (LowR z → DN s e z) ∧
      ∀ w, Calls Try.prog 19 #[.agg #[.float .f64 x, .float .f64 y], .agg #[.float .f64 u, .float .f64 v]] w fun r w' => r = .returned (.agg #[.float .f64 s, .float .f64 e]) ∧ Bel w w' := by
  obtain ⟨H, L, n1, n2, t1, v1⟩ := h.ex
  obtain ⟨H', L', n3, n4, t2, v2⟩ := k.ex
  obtain ⟨s, e, Z, ⟨P, Q1, Q2, Q3, p, ε, m1, m2, c, f, hK⟩, ns, ne, hC⟩ := mul_pure x y u v H L H' L' n1 n2 n3 n4 (MulIn.tame t1 t2)
  have hE : ∀ A B, Wi a A → Wi b B → InU (1140000 * (A * B)) (reR Z) (a * b) := by
    intro A B hA hB
    have w1 := wi_abs (hi_re (TameN.rn t1) (x := A) (by rw [v1]; exact hA))
    have w2 := wi_abs (hi_re (TameN.rn t2) (x := B) (by rw [v2]; exact hB))
    have w3 := w1.mul w2
    rw [re_prod hK.R.hP] at w3
    have hb := re_bound0 hK.bound (re_abs w3)
    have e1 : reR (Z - (P + Q1 + Q2 + Q3)) = reR Z - a * b := by
      rw [reR_sub, ← v1, ← v2, re_prod hK.prod]
    rw [e1] at hb
    have m := Rat.mul_nonneg hA.nn hB.nn
    have z65 : ((65 : Nat) : Rat) = 65 := by exact_mod_cast rfl
    rw [z65] at hb
    exact (hb.mono (by grind)).inU
  have hu := near_up (hE A B hA hB) (hA.mul hB) hAB (by have := Rat.mul_nonneg hA.nn hB.nn; grind)
  exact ⟨s, e, reR Z, NP.make ns ne hu, hE, DN.make ns ne hK.rZ (KF.kp hK.fp) (KF.kp hK.ff) hu, hC⟩
theorem tame_zero {H L : Int} (h : Flt.TameN H L) (h0 : H = 0) : L = 0 := by
  rcases h with ⟨_, h2⟩ | ⟨h1, _, _, _⟩
  · exact h2
  · rw [h0] at h1
    exact absurd h1 (Nat.not_le_of_lt (Flt.two_posN 930))
theorem quo_d {x y u v : Nat} {a b A : Rat} (h : DN x y a) (k : DN u v b) (hb : 1 ≤ b) (hA : Wi a (A * b)) (hA9 : A ≤ (c90 : Rat)) :
    ∃ s e z, NP s e z ∧ InU (9970000 * A) z (a / b) ∧ (LowR z → DN s e z) ∧
      ∀ w, Calls Try.prog 39 #[.agg #[.float .f64 x, .float .f64 y], .agg #[.float .f64 u, .float .f64 v]] w fun r w' => r = .returned (.agg #[.float .f64 s, .float .f64 e]) ∧ Bel w w' := by
  obtain ⟨H, L, n1, n2, t1, v1⟩ := h.ex
  obtain ⟨H', L', n3, n4, t2, v2⟩ := k.ex
  have bp : 0 < b := by grind
  have h' : H' ≠ 0 := by
    intro h0
    have := tame_zero t2 h0
    rw [h0, this, Int.add_zero, reR_zero] at v2
    grind
  obtain ⟨s, e, Z, hQ, ns, ne, hC⟩ := quo_pure x y u v H L H' L' n1 n2 n3 n4 t1 t2 h'
  have hA0 : 0 ≤ A := nonneg_of bp (by have := hA.nn; grind)
  have hE : InU (9970000 * A) (reR Z) (a / b) := by
    by_cases h0 : H = 0
    · have z := hQ.zero h0
      have hL := tame_zero t1 h0
      rw [h0, hL, Int.add_zero, reR_zero] at v1
      rw [z, reR_zero, ← v1]
      have : (0 : Rat) / b = 0 := by grind
      rw [this]
      exact ⟨by grind, by grind⟩
    · have w1 := hi_re (TameN.rn t1) (x := A * b) (by rw [v1]; exact hA)
      have hM : ((H.natAbs * 2 ^ Flt.uE : Nat) : Rat) ≤ 32 / 31 * (A * b) * vR * vR := by
        have e1 : ((H.natAbs * 2 ^ Flt.uE : Nat) : Rat) = ((H.natAbs : Nat) : Rat) * ((2 ^ Flt.uE : Nat) : Rat) := Rat.natCast_mul _ _
        rw [e1, v_nat]
        have p := vR_pos
        have m := Rat.mul_nonneg (a := 32 / 31 * (A * b) * vR - ((H.natAbs : Nat) : Rat)) (b := vR) (by grind) (by grind)
        grind
      have hB := re_bound0 (hQ.err h0) hM
      have z589 : ((589 : Nat) : Rat) = 589 := by exact_mod_cast rfl
      rw [z589] at hB
      have e2 : reR (Z * (H' + L') - (H + L) * 2 ^ Flt.uE) = (reR Z * b - a) * vR := by
        refine reR_of ?_
        have e3 : ((Z * (H' + L') - (H + L) * 2 ^ Flt.uE : Int) : Rat) = ((Z : Int) : Rat) * ((H' + L' : Int) : Rat) - ((H + L : Int) : Rat) * (((2 : Int) ^ Flt.uE : Int) : Rat) := by
          rw [Rat.intCast_sub, Rat.intCast_mul, Rat.intCast_mul]
        rw [e3, v_int, ← reR_v Z, ← reR_v (H' + L'), ← reR_v (H + L), v1, v2]
        grind
      rw [e2] at hB
      obtain ⟨b1, b2⟩ := hB
      have p := vR_pos
      have e4 : a / b * b = a := by grind
      generalize a / b = q at *
      rw [← e4] at b1 b2
      generalize reR Z = z at *
      generalize vR = V at *
      have k1 := nonneg_of p (d := 589 * 16384 * (32 / 31 * (A * b)) - (z * b - q * b) * uR) (by grind)
      have k2 := nonneg_of p (d := 589 * 16384 * (32 / 31 * (A * b)) + (z * b - q * b) * uR) (by grind)
      have k3 := nonneg_of bp (d := 589 * 16384 * (32 / 31 * A) - (z - q) * uR) (by grind)
      have k4 := nonneg_of bp (d := 589 * 16384 * (32 / 31 * A) + (z - q) * uR) (by grind)
      exact ⟨by grind, by grind⟩
  have hq : Wi (a / b) A := by
    have e4 : a / b * b = a := by grind
    have x1 := hA.1
    have x2 := hA.2
    generalize a / b = q at *
    rw [← e4] at x1 x2
    have k1 := nonneg_of bp (d := A - q) (by grind)
    have k2 := nonneg_of bp (d := A + q) (by grind)
    exact ⟨by grind, by grind⟩
  have hu := near_up hE hq hA9 (by grind)
  obtain ⟨q, t, hZ, fq, ft, kq⟩ := hQ.two
  exact ⟨s, e, reR Z, NP.make ns ne hu, hE, DN.make ns ne hZ (kq ▸ KF.kp fq) (KF.kp ft) hu, hC⟩
theorem pw5 {a b c d e k m n : Nat} (hk : k = 2 ^ a) (hm : m = 2 ^ e) (h : a + (b + c + d) + e ≤ n) : k * (2 ^ b * 2 ^ c * 2 ^ d) * m ≤ 2 ^ n := by
  rw [hk, hm, pw4, ← Nat.pow_add]
  exact Flt.two_le h
theorem q400_v : ((8 * (q400 * Flt.K53 * Flt.K53) : Nat) : Rat) ≤ 1 / 16384 * vR := by
  have h : 8 * (q400 * Flt.K53 * Flt.K53) * 16384 ≤ 2 ^ Flt.uE := by
    rw [q400_eq, K53_pow]
    have k := @pw5 3 674 53 53 14 8 16384 Flt.uE (by decide) (by decide) (by decide)
    exact k
  have q : ((8 * (q400 * Flt.K53 * Flt.K53) * 16384 : Nat) : Rat) ≤ ((2 ^ Flt.uE : Nat) : Rat) := by exact_mod_cast h
  have e : ((8 * (q400 * Flt.K53 * Flt.K53) * 16384 : Nat) : Rat) = ((8 * (q400 * Flt.K53 * Flt.K53) : Nat) : Rat) * 16384 := Rat.natCast_mul _ _
  rw [e, v_nat] at q
  grind
theorem neat_lo {H L : Int} (h : Flt.rn (H + L) = H) (hH : H.natAbs ≤ 2 ^ 1240) : L.natAbs ≤ 2 ^ 1240 := by
  have h1 := Flt.lo_le h
  have h2 := Nat.mul_le_mul_left L.natAbs K53_k
  exact Nat.le_trans (by omega) hH
theorem add_d {x y u v : Nat} {a b X : Rat} (h : NP x y a) (k : NP u v b) (hA : Wi a X) (hB : Wi b X) (hX : X ≤ 1000000) :
    ∃ s e z, NP s e z ∧ InU (642676 * X + 1) z (a + b) ∧ (LowR z → DN s e z) ∧
      ∀ w, Calls Try.prog 20 #[.agg #[.float .f64 x, .float .f64 y], .agg #[.float .f64 u, .float .f64 v]] w fun r w' => r = .returned (.agg #[.float .f64 s, .float .f64 e]) ∧ Bel w w' := by
  obtain ⟨H, L, n1, n2, r1, u1, v1⟩ := h.ex
  obtain ⟨H', L', n3, n4, r2, u2, v2⟩ := k.ex
  obtain ⟨s, e, Z, ⟨s1, e1, t1, f1, w1, s2, e2, g, hR⟩, ns, ne, hC⟩ := add_pure x y u v H L H' L' n1 n2 n3 n4 u1 (neat_lo r1 u1) u2 (neat_lo r2 u2)
  have b1 := hi_re r1 (x := X) (by rw [v1]; exact hA)
  have b2 := hi_re r2 (x := X) (by rw [v2]; exact hB)
  have hE : InU (642676 * X + 1) (reR Z) (a + b) := by
    obtain ⟨B, hB1, hB2, hB3⟩ : ∃ B : Nat, H.natAbs ≤ B ∧ H'.natAbs ≤ B ∧ (B : Rat) ≤ 32 / 31 * X * vR := by
      by_cases c : H.natAbs ≤ H'.natAbs
      · exact ⟨_, c, Nat.le_refl _, b2⟩
      · exact ⟨_, Nat.le_refl _, by omega, b1⟩
    have he := hR.err (Flt.near_lo r1) (Flt.near_lo r2) hB1 hB2
    have hb := re_bound he hB3 q400_v
    have e3 : reR (Z - (H + L + (H' + L'))) = reR Z - (a + b) := by rw [reR_sub, reR_add (H + L) (H' + L'), v1, v2]
    rw [e3] at hb
    have z38 : ((38 : Nat) : Rat) = 38 := by exact_mod_cast rfl
    rw [z38] at hb
    have := hA.nn
    exact (hb.mono (by grind)).inU
  have t : (2000000 : Rat) ≤ (c90 : Rat) := by exact_mod_cast (show 2000000 ≤ c90 by decide)
  have hu := near_up (X := 2 * X) hE ⟨by have := hA.1; have := hB.1; grind, by have := hA.2; have := hB.2; grind⟩ (by grind) (by have := hA.nn; grind)
  exact ⟨s, e, reR Z, NP.make ns ne hu, hE, DN.make ns ne hR.r_Z (KF.kp hR.fl.1) (KF.kp hR.fl.2) hu, hC⟩
end Go.Proofs.Ytpifkjmdcbieoaa

/- The nested series over the rationals, and how far steps with errors lead from it. No program is named here. -/
namespace Go.Proofs.Ytpifkjmdcbieoaa
open Go.RowKit

/-- cosine and sine of t by terms nested from the 27th on, after so many steps -/
def nst (t : Rat) : Nat → Rat × Rat
  | 0 => (1, 0)
  | i + 1 => (1 - t / ((27 - i : Nat) : Rat) * (nst t i).2, t / ((27 - i : Nat) : Rat) * (nst t i).1)
def nC (t : Rat) (i : Nat) : Rat := (nst t i).1
def nS (t : Rat) (i : Nat) : Rat := (nst t i).2
theorem nC_zero (t : Rat) : nC t 0 = 1 := rfl
theorem nS_zero (t : Rat) : nS t 0 = 0 := rfl
theorem nC_succ (t : Rat) (i : Nat) : nC t (i + 1) = 1 - t / ((27 - i : Nat) : Rat) * nS t i := rfl
theorem nS_succ (t : Rat) (i : Nat) : nS t (i + 1) = t / ((27 - i : Nat) : Rat) * nC t i := rfl
theorem kR {i : Nat} (h : i < 27) : (1 : Rat) ≤ ((27 - i : Nat) : Rat) ∧ ((27 - i : Nat) : Rat) ≤ 27 := by
  constructor
  · exact_mod_cast (show 1 ≤ 27 - i by omega)
  · exact_mod_cast (show 27 - i ≤ 27 by omega)
theorem div_le {t k : Rat} (h0 : 0 ≤ t) (hk : 1 ≤ k) : 0 ≤ t / k ∧ t / k ≤ t := by
  have e : k * (t / k) = t := by grind
  have p : 0 < k := by grind
  generalize t / k = q at *
  have h1 := nonneg_of p (d := q) (by grind)
  have m := Rat.mul_nonneg (a := k - 1) (b := q) (by grind) h1
  exact ⟨h1, by grind⟩
theorem nst_range {t : Rat} (h0 : 0 ≤ t) (h1 : t ≤ 4 / 5) : ∀ i, i ≤ 27 → (9 / 25 ≤ nC t i ∧ nC t i ≤ 1) ∧ (0 ≤ nS t i ∧ nS t i ≤ 4 / 5)
  | 0, _ => by rw [nC_zero, nS_zero]; constructor <;> constructor <;> grind
  | i + 1, h => by
    obtain ⟨⟨a1, a2⟩, ⟨b1, b2⟩⟩ := nst_range h0 h1 i (by omega)
    obtain ⟨k1, k2⟩ := kR (i := i) (by omega)
    obtain ⟨d1, d2⟩ := div_le h0 k1
    rw [nC_succ, nS_succ]
    generalize t / ((27 - i : Nat) : Rat) = q at *
    have m1 := Rat.mul_nonneg d1 b1
    have m2 := Rat.mul_nonneg d1 (b := nC t i) (by grind)
    have m3 := Rat.mul_nonneg (a := 4 / 5 - q) (b := nS t i) (by grind) b1
    have m4 := Rat.mul_nonneg d1 (b := 1 - nC t i) (by grind)
    constructor <;> constructor <;> grind
theorem nS_low {t : Rat} (h0 : 0 ≤ t) (h1 : t ≤ 4 / 5) {i : Nat} (h : i < 27) : t * (1 / 75) ≤ nS t (i + 1) := by
  obtain ⟨⟨a1, a2⟩, _⟩ := nst_range h0 h1 i (by omega)
  obtain ⟨k1, k2⟩ := kR (i := i) h
  rw [nS_succ]
  have e : ((27 - i : Nat) : Rat) * (t / ((27 - i : Nat) : Rat)) = t := by grind
  obtain ⟨d1, d2⟩ := div_le h0 k1
  generalize t / ((27 - i : Nat) : Rat) = q at *
  generalize ((27 - i : Nat) : Rat) = k at *
  have m := Rat.mul_nonneg (a := 27 - k) (b := q) (by grind) d1
  have m2 := Rat.mul_nonneg (a := q) (b := nC t i - 9 / 25) d1 (by grind)
  grind
theorem eR_next (j : Nat) : eR false (j + 1) = - eR true j ∧ eR true (j + 1) = eR false j := ⟨rfl, rfl⟩
theorem tR_next (t : Rat) (j : Nat) : tR t j * (t / ((j + 1 : Nat) : Rat)) = tR t (j + 1) := by
  have h := tR_succ t j
  have hj := natR j
  have e : ((j + 1 : Nat) : Rat) = (j : Rat) + 1 := by push_cast; rfl
  rw [e]
  have p : 0 < (j : Rat) + 1 := by grind
  have e2 : (t / ((j : Rat) + 1)) * ((j : Rat) + 1) = t := by grind
  generalize t / ((j : Rat) + 1) = q at *
  generalize (j : Rat) + 1 = k at *
  refine cancelR p ?_
  grind
theorem nst_sum (t : Rat) : ∀ i, i ≤ 27 → tR t (27 - i) * nC t i = sumR (fun j => eR false j * tR t (27 - i + j)) (i + 1) ∧ tR t (27 - i) * nS t i = sumR (fun j => eR true j * tR t (27 - i + j)) (i + 1)
  | 0, _ => by
    rw [nC_zero, nS_zero]
    have e1 : eR false 0 = 1 := rfl
    have e2 : eR true 0 = 0 := rfl
    simp only [sumR, e1, e2]
    constructor <;> grind
  | i + 1, h => by
    obtain ⟨a, b⟩ := nst_sum t i (by omega)
    obtain ⟨m, hm⟩ : ∃ m, m = 27 - (i + 1) := ⟨_, rfl⟩
    have hm1 : 27 - i = m + 1 := by omega
    rw [hm1] at a b
    rw [nC_succ, nS_succ, hm1, ← hm]
    have hn := tR_next t m
    have e1 : eR false 0 = 1 := rfl
    have e2 : eR true 0 = 0 := rfl
    rw [sumR_first (fun j => eR false j * tR t (m + j)) (i + 1), sumR_first (fun j => eR true j * tR t (m + j)) (i + 1)]
    simp only [eR_next, e1, e2, Nat.add_zero]
    have c1 : sumR (fun j => -eR true j * tR t (m + (j + 1))) (i + 1) = - sumR (fun j => eR true j * tR t (m + 1 + j)) (i + 1) := by
      rw [← sumR_neg]
      exact sumR_congr _ fun j _ => by rw [show m + (j + 1) = m + 1 + j from by omega]; grind
    have c2 : sumR (fun j => eR false j * tR t (m + (j + 1))) (i + 1) = sumR (fun j => eR false j * tR t (m + 1 + j)) (i + 1) :=
      sumR_congr _ fun j _ => by rw [show m + (j + 1) = m + 1 + j from by omega]
    rw [c1, c2, ← a, ← b]
    constructor <;> grind
theorem nst_end (t : Rat) : nC t 27 = cR 28 t ∧ nS t 27 = sR 28 t := by
  obtain ⟨a, b⟩ := nst_sum t 27 (by decide)
  have e0 : tR t 0 = 1 := rfl
  rw [show 27 - 27 = 0 from rfl, e0] at a b
  simp only [Nat.zero_add] at a b
  constructor
  · have : nC t 27 = 1 * nC t 27 := by grind
    rw [this, a]; rfl
  · have : nS t 27 = 1 * nS t 27 := by grind
    rw [this, b]; rfl
theorem fac_small {j : Nat} (h : one120.ble (facN j * 5000000) = true) : tR 1 j * uR ≤ 5000000 := by
  have h1 : one120 ≤ facN j * 5000000 := Nat.le_of_ble_eq_true h
  have h2 := tR_fac 1 j
  have z1 : ((1 : Nat) : Rat) = 1 := by exact_mod_cast rfl
  rw [z1, Nat.one_pow, z1] at h2
  have q : ((one120 : Nat) : Rat) ≤ ((facN j * 5000000 : Nat) : Rat) := by exact_mod_cast h1
  have e : ((facN j * 5000000 : Nat) : Rat) = (facN j : Rat) * 5000000 := by push_cast; rfl
  rw [e] at q
  have p : (0 : Rat) < (facN j : Rat) := by exact_mod_cast facN_pos j
  show tR 1 j * (one120 : Rat) ≤ 5000000
  generalize (facN j : Rat) = F at *
  generalize (one120 : Rat) = U at *
  generalize tR 1 j = T at *
  have t0 := nonneg_of p (d := T) (by grind)
  have m := Rat.mul_nonneg (a := T) (b := F * 5000000 - U) t0 (by grind)
  grind
theorem tail_term {t : Rat} (h1 : -1 ≤ t) (h2 : t ≤ 1) (b : Bool) {j : Nat} (h : one120.ble (facN j * 5000000) = true) : -5000000 ≤ eR b j * tR t j * uR ∧ eR b j * tR t j * uR ≤ 5000000 := by
  obtain ⟨a1, a2⟩ := tR_within h1 h2 j
  obtain ⟨c1, c2⟩ := eR_one b j
  obtain ⟨m1, m2⟩ := within_mul c1 c2 a1 a2
  have hs := fac_small h
  have p := uR_pos
  have k1 := Rat.mul_nonneg (a := 1 * tR 1 j - eR b j * tR t j) (b := uR) (by grind) (by grind)
  have k2 := Rat.mul_nonneg (a := 1 * tR 1 j + eR b j * tR t j) (b := uR) (by grind) (by grind)
  constructor <;> grind
theorem tail28 {t : Rat} (h1 : -1 ≤ t) (h2 : t ≤ 1) (b : Bool) : InU 20000016 (sumR (fun k => eR b k * tR t k) 28) (sumR (fun k => eR b k * tR t k) 100) := by
  obtain ⟨a1, a2⟩ := tail32 h1 h2 b
  have e : sumR (fun k => eR b k * tR t k) 32 = sumR (fun k => eR b k * tR t k) 28 + eR b 28 * tR t 28 + eR b 29 * tR t 29 + eR b 30 * tR t 30 + eR b 31 * tR t 31 := rfl
  have u : (one120 : Rat) = uR := rfl
  rw [e, u] at a1 a2
  obtain ⟨b1, c1⟩ := tail_term h1 h2 b (j := 28) (by decide +kernel)
  obtain ⟨b2, c2⟩ := tail_term h1 h2 b (j := 29) (by decide +kernel)
  obtain ⟨b3, c3⟩ := tail_term h1 h2 b (j := 30) (by decide +kernel)
  obtain ⟨b4, c4⟩ := tail_term h1 h2 b (j := 31) (by decide +kernel)
  generalize sumR (fun k => eR b k * tR t k) 100 = s100 at *
  generalize sumR (fun k => eR b k * tR t k) 28 = s28 at *
  generalize eR b 28 * tR t 28 = x28 at *
  generalize eR b 29 * tR t 29 = x29 at *
  generalize eR b 30 * tR t 30 = x30 at *
  generalize eR b 31 * tR t 31 = x31 at *
  constructor <;> grind
theorem nst_near {t : Rat} (h1 : -1 ≤ t) (h2 : t ≤ 1) : InU 20000016 (nC t 27) (cosR t) ∧ InU 20000016 (nS t 27) (sinR t) := by
  obtain ⟨e1, e2⟩ := nst_end t
  rw [e1, e2]
  exact ⟨tail28 h1 h2 false, tail28 h1 h2 true⟩
/-- products of near numbers -/
theorem prod_near {d e p T s S A B : Rat} (h : InU d p T) (k : InU e s S) (hs : Wi s B) (hT : Wi T A) : InU (d * B + A * e) (p * s) (T * S) := by
  have a := within_mul h.lo h.hi hs.1 hs.2
  have b := within_mul hT.1 hT.2 k.lo k.hi
  have e1 : (p * s - T * S) * uR = (p - T) * uR * s + T * ((s - S) * uR) := by grind
  constructor <;> rw [e1] <;> grind
end Go.Proofs.Ytpifkjmdcbieoaa

/- The landed trig's whole and eighth. -/
namespace Go.Proofs.Ytpifkjmdcbieoaa
open Go.RowKit

theorem whole_num (a : Nat) (ha : a ≤ 2 ^ 40) : Flt.Num (floatOfInt .f64 (a : Int)) ((a : Int) * 2 ^ Flt.uE) := by
  have h := Flt.nearest_rn false a 0 (Or.inr (by decide)) (by
    have e : ((0 : Int) + 1074).toNat = Flt.uE := rfl
    rw [e]
    have h1 : a * 2 ^ Flt.uE ≤ 2 ^ 40 * 2 ^ Flt.uE := Nat.mul_le_mul_right _ ha
    rw [← Nat.pow_add] at h1
    exact Nat.lt_of_le_of_lt h1 (Flt.two_lt' (a := 40 + Flt.uE) (b := Flt.top) (by decide)))
  have e1 : Flt.sval false a 0 = (a : Int) * 2 ^ Flt.uE := by
    unfold Flt.sval
    rw [Flt.signed_eq]
    rfl
  have e2 : floatOfInt .f64 (a : Int) = Ieee.double.nearest false a 0 := by
    unfold floatOfInt FloatKind.nearest
    have e3 : decide ((a : Int) < 0) = false := decide_eq_false (by omega)
    rw [e3, Int.natAbs_natCast]
    rfl
  rw [e1, Flt.rn_fl ⟨(a : Int), Flt.uE, rfl, by rw [Int.natAbs_natCast]; exact Nat.lt_of_le_of_lt ha (by decide)⟩] at h
  rw [e2]
  exact h
theorem whole_tame (a : Nat) (ha : a ≤ 2 ^ 40) : Flt.TameN ((a : Int) * 2 ^ Flt.uE) 0 := by
  by_cases h0 : a = 0
  · left; rw [h0]; exact ⟨by simp, rfl⟩
  · right
    have e : ((a : Int) * 2 ^ Flt.uE).natAbs = a * 2 ^ Flt.uE := by rw [Flt.natAbs_uE, Int.natAbs_natCast]
    refine ⟨?_, ?_, ?_, Or.inl rfl⟩
    · rw [e]
      exact Nat.le_trans (Flt.two_le (a := 930) (b := Flt.uE) (by decide)) (Nat.le_mul_of_pos_left _ (Nat.pos_of_ne_zero h0))
    · rw [e]
      have h1 : a * 2 ^ Flt.uE ≤ 2 ^ 40 * 2 ^ Flt.uE := Nat.mul_le_mul_right _ ha
      rw [← Nat.pow_add] at h1
      exact Nat.lt_of_le_of_lt h1 (Flt.two_lt' (a := 40 + Flt.uE) (b := 1220) (by decide))
    · rw [Int.add_zero]
      exact Flt.rn_fl ⟨(a : Int), Flt.uE, rfl, by rw [Int.natAbs_natCast]; exact Nat.lt_of_le_of_lt ha (by decide)⟩
theorem whole_re (a : Nat) : reR ((a : Int) * 2 ^ Flt.uE) = (a : Rat) := reR_of (by
  rw [Rat.intCast_mul, v_int]; rfl)
theorem whole_d (a : Nat) (ha : a ≤ 2 ^ 40) : ∃ x y, DN x y (a : Rat) ∧ ∀ w, Calls Try.prog 36 #[.int .i64 (a : Int)] w fun r w' => r = .returned (.agg #[.float .f64 x, .float .f64 y]) ∧ Bel w w' := by
  have sf := run_store_float Try.prog
  have hT := whole_tame a ha
  have hu := TameN.up hT
  obtain ⟨x, y, nx, ny, hC⟩ := new_pure _ 0 _ 0 (whole_num a ha) num_zero_k (Nat.le_trans hu.1 (Flt.two_le (a := 1220) (b := 1474) (by decide))) (Nat.zero_le _)
  have hr := TameN.rn hT
  rw [hr] at nx ny
  rw [Int.add_zero, Int.sub_self] at ny
  refine ⟨x, y, ⟨_, _, nx, ny, hT, by rw [Int.add_zero]; exact whole_re a⟩, fun w => ?_⟩
  clear hT hu hr nx ny
  go_enter Try.func36, Try.ntmps36
  go_wp2_with fail
  refine (hC _).mono ?_; rintro r w1 ⟨rfl, hB⟩
  have hT3 := (Two.new w 0 0 30).by hB
  have hBw := ((Bel.refl w).alloc (.cells #[.float .f64 0, .float .f64 0] 30)).trans hB
  obtain ⟨R, hR⟩ : ∃ R, R = w.heap.size := ⟨_, rfl⟩
  have hRw : w.heap.size ≤ R := by omega
  rw [← hR] at hT3 ⊢
  obtain ⟨m1, m2⟩ := hT3.mid x
  obtain ⟨d0, d1, _, _⟩ := hT3.set x y
  obtain ⟨c0, c1, f0, f1⟩ := hT3
  clear hC hR hB
  go_wp2
  refine bodyPost_ret (by simp [results, go_sem, d0, d1]; try rfl) rfl ?_
  exact ⟨rfl, (hBw.setCell hRw _).setCell hRw _⟩
end Go.Proofs.Ytpifkjmdcbieoaa

/- The landed trig's eighth of a turn. -/
namespace Go.Proofs.Ytpifkjmdcbieoaa
open Go.RowKit

def mHi : Nat := 7074237752028440
def e1021 : Nat := 1021
def e967 : Nat := 967
def mLo : Nat := 4967757600021511
def xE : Nat := 127438138015862315638027235646471
def c107 : Nat := 162259276829213363391578010288128
theorem v_967 : 2 ^ Flt.uE = 2 ^ e967 * c107 := by
  have h : Flt.uE = e967 + 107 := rfl
  have h2 : c107 = 2 ^ 107 := by decide
  rw [h, h2, Nat.pow_add]
theorem eighth_words : Flt.Num 4605249457297304856 ((mHi : Int) * 2 ^ e1021) ∧ Flt.Num 4359948597267291143 ((mLo : Int) * 2 ^ e967) := by
  constructor
  · have h := Flt.num_of (x := 4605249457297304856) (by decide) (by decide)
    rw [Flt.v_mid (by decide) (by decide)] at h
    exact h
  · have h := Flt.num_of (x := 4359948597267291143) (by decide) (by decide)
    rw [Flt.v_mid (by decide) (by decide)] at h
    exact h
theorem big_of {m e k : Nat} (h : 0 < m) (hk : k ≤ e) : 2 ^ k ≤ ((m : Int) * 2 ^ e).natAbs := by
  rw [Int.natAbs_mul, Flt.natAbs_two, Int.natAbs_natCast]
  exact Nat.le_trans (Flt.two_le hk) (Nat.le_mul_of_pos_left _ h)
theorem up_of {m e j k : Nat} (h : m ≤ 2 ^ j) (hk : j + e ≤ k) : ((m : Int) * 2 ^ e).natAbs ≤ 2 ^ k := by
  rw [Int.natAbs_mul, Flt.natAbs_two, Int.natAbs_natCast]
  have h1 : m * 2 ^ e ≤ 2 ^ j * 2 ^ e := Nat.mul_le_mul_right _ h
  rw [← Nat.pow_add] at h1
  exact Nat.le_trans h1 (Flt.two_le hk)
theorem eighth_sum : (mHi : Int) * 2 ^ e1021 + (mLo : Int) * 2 ^ e967 = (xE : Int) * 2 ^ e967 := by
  have h : e1021 = 54 + e967 := rfl
  have h2 : (xE : Int) = (mHi : Int) * 2 ^ 54 + (mLo : Int) := by decide
  rw [h, Int.pow_add, h2, Int.add_mul, Int.mul_assoc]
theorem c107_pos : (0 : Rat) < (c107 : Rat) := by exact_mod_cast (show 0 < c107 by decide)
theorem eighth_re : reR ((mHi : Int) * 2 ^ e1021 + (mLo : Int) * 2 ^ e967) = (xE : Rat) / (c107 : Rat) := by
  rw [eighth_sum]
  refine reR_of ?_
  have p := c107_pos
  have h := v_nat
  rw [v_967, Rat.natCast_mul] at h
  have e : (((xE : Int) * 2 ^ e967 : Int) : Rat) = (xE : Rat) * ((2 ^ e967 : Nat) : Rat) := by
    rw [Rat.intCast_mul]
    have : (2 : Int) ^ e967 = ((2 ^ e967 : Nat) : Int) := (Int.natCast_pow 2 e967).symm
    rw [this]; rfl
  rw [e, ← h]
  generalize ((2 ^ e967 : Nat) : Rat) = P
  have e2 : (xE : Rat) / (c107 : Rat) * (c107 : Rat) = (xE : Rat) := by grind
  generalize (xE : Rat) / (c107 : Rat) = q at *
  rw [← e2]; grind
theorem eighth_near : InU 5000 ((xE : Rat) / (c107 : Rat)) eighthR := by
  have h1 : xE * 8192 ≤ eighthN + 5000 := by decide
  have h2 : eighthN ≤ xE * 8192 + 5000 := by decide
  have q1 : ((xE * 8192 : Nat) : Rat) ≤ ((eighthN + 5000 : Nat) : Rat) := by exact_mod_cast h1
  have q2 : ((eighthN : Nat) : Rat) ≤ ((xE * 8192 + 5000 : Nat) : Rat) := by exact_mod_cast h2
  have z1 : ((xE * 8192 : Nat) : Rat) = (xE : Rat) * 8192 := by push_cast; rfl
  have z2 : ((eighthN + 5000 : Nat) : Rat) = (eighthN : Rat) + 5000 := by push_cast; rfl
  have z3 : ((xE * 8192 + 5000 : Nat) : Rat) = (xE : Rat) * 8192 + 5000 := by push_cast; rfl
  rw [z1, z2] at q1
  rw [z3] at q2
  have hx := xR_mul eighthN
  have u : uR = (c107 : Rat) * 8192 := by
    have : one120 = c107 * 8192 := by decide
    unfold uR
    rw [this]; push_cast; rfl
  have p := c107_pos
  have e2 : (xE : Rat) / (c107 : Rat) * (c107 : Rat) = (xE : Rat) := by grind
  have u2 : (one120 : Rat) = uR := rfl
  rw [u2] at hx
  unfold eighthR
  constructor
  · generalize xR eighthN = X at *
    generalize (xE : Rat) / (c107 : Rat) = q at *
    rw [u] at hx ⊢
    grind
  · generalize xR eighthN = X at *
    generalize (xE : Rat) / (c107 : Rat) = q at *
    rw [u] at hx ⊢
    grind
theorem eighth_size : (3 : Rat) / 4 ≤ (xE : Rat) / (c107 : Rat) ∧ (xE : Rat) / (c107 : Rat) ≤ 4 / 5 := by
  have h1 : 3 * c107 ≤ 4 * xE := by decide
  have h2 : 5 * xE ≤ 4 * c107 := by decide
  have q1 : ((3 * c107 : Nat) : Rat) ≤ ((4 * xE : Nat) : Rat) := by exact_mod_cast h1
  have q2 : ((5 * xE : Nat) : Rat) ≤ ((4 * c107 : Nat) : Rat) := by exact_mod_cast h2
  have z1 : ((3 * c107 : Nat) : Rat) = 3 * (c107 : Rat) := by push_cast; rfl
  have z2 : ((4 * xE : Nat) : Rat) = 4 * (xE : Rat) := by push_cast; rfl
  have z3 : ((5 * xE : Nat) : Rat) = 5 * (xE : Rat) := by push_cast; rfl
  have z4 : ((4 * c107 : Nat) : Rat) = 4 * (c107 : Rat) := by push_cast; rfl
  rw [z1, z2] at q1
  rw [z3, z4] at q2
  have p := c107_pos
  have e2 : (xE : Rat) / (c107 : Rat) * (c107 : Rat) = (xE : Rat) := by grind
  generalize (xE : Rat) / (c107 : Rat) = q at *
  have k1 := nonneg_of p (d := q - 3 / 4) (by grind)
  have k2 := nonneg_of p (d := 4 / 5 - q) (by grind)
  constructor <;> grind
theorem low_small {z : Rat} (h : 1 / 1000000 ≤ z) : LowR z := by
  right; left
  have p := c140_pos
  have q : (1000000 : Rat) ≤ (c140 : Rat) := by exact_mod_cast (show 1000000 ≤ c140 by decide)
  have e : 1 / (c140 : Rat) * (c140 : Rat) = 1 := by grind
  generalize 1 / (c140 : Rat) = i at *
  generalize (c140 : Rat) = c at *
  have i0 := nonneg_of p (d := i) (by grind)
  have m := Rat.mul_nonneg (a := c - 1000000) (b := i) (by grind) i0
  grind
theorem wi_c100 {z : Rat} (h : Wi z 1000000) : Wi z (c100 : Rat) := h.mono (by exact_mod_cast (show 1000000 ≤ c100 by decide))
theorem eighth_d : ∃ x y, DN x y ((xE : Rat) / (c107 : Rat)) ∧ ∀ w, Calls Try.prog 38 #[] w fun r w' => r = .returned (.agg #[.float .f64 x, .float .f64 y]) ∧ Bel w w' := by
  have sf := run_store_float Try.prog
  obtain ⟨nx0, ny0⟩ := eighth_words
  obtain ⟨x, y, nx, ny, hC⟩ := new_pure _ _ _ _ nx0 ny0 (up_of (j := 53) (k := 1474) (by decide) (by decide)) (up_of (j := 53) (k := 1474) (by decide) (by decide))
  have ha : KF ((mHi : Int) * 2 ^ e1021) := ⟨nx0.fl, Or.inr (big_of (k := 674) (by decide) (by decide))⟩
  have hb : KF ((mLo : Int) * 2 ^ e967) := ⟨ny0.fl, Or.inr (big_of (k := 674) (by decide) (by decide))⟩
  obtain ⟨s1, s2⟩ := eighth_size
  have hD := DN.make nx ny rfl ha hb (by rw [eighth_re]; exact wi_c100 ⟨by grind, by grind⟩) (by rw [eighth_re]; exact low_small (by grind))
  rw [eighth_re] at hD
  refine ⟨x, y, hD, fun w => ?_⟩
  clear nx0 ny0 nx ny ha hb s1 s2 hD
  go_enter Try.func38, Try.ntmps38
  go_wp2_with fail
  refine (hC _).mono ?_; rintro r w1 ⟨rfl, hB⟩
  have hT3 := (Two.new w 0 0 30).by hB
  have hBw := ((Bel.refl w).alloc (.cells #[.float .f64 0, .float .f64 0] 30)).trans hB
  obtain ⟨R, hR⟩ : ∃ R, R = w.heap.size := ⟨_, rfl⟩
  have hRw : w.heap.size ≤ R := by omega
  rw [← hR] at hT3 ⊢
  obtain ⟨m1, m2⟩ := hT3.mid x
  obtain ⟨d0, d1, _, _⟩ := hT3.set x y
  obtain ⟨c0, c1, f0, f1⟩ := hT3
  clear hC hR hB
  go_wp2
  refine bodyPost_ret (by simp [results, go_sem, d0, d1]; try rfl) rfl ?_
  exact ⟨rfl, (hBw.setCell hRw _).setCell hRw _⟩
end Go.Proofs.Ytpifkjmdcbieoaa

/- One round of the landed trig's series, in words. -/
namespace Go.Proofs.Ytpifkjmdcbieoaa
open Go.RowKit

def eS : Rat := 268435456
theorem uR_big2 : (2000000000000 : Rat) ≤ uR := by
  have h : 2000000000000 ≤ one120 := by decide
  have q : ((2000000000000 : Nat) : Rat) ≤ ((one120 : Nat) : Rat) := by exact_mod_cast h
  exact q
theorem InU.flat30 {e a b : Rat} (h : InU e a b) (he : e ≤ 2000000000) : Wi (a - b) (1 / 1000) := by
  have p := uR_pos
  have q := uR_big2
  have h1 := h.lo
  have h2 := h.hi
  generalize uR = u at *
  have k1 := nonneg_of p (d := 1 / 1000 - (a - b)) (by grind)
  have k2 := nonneg_of p (d := 1 / 1000 + (a - b)) (by grind)
  exact ⟨by grind, by grind⟩
theorem low_of {e x X : Rat} (h : InU e x X) (hX : e + 1 ≤ X * uR) : LowR x := by
  right; left
  have p := c140_pos
  have h1 := h.lo
  have u : uR * 1000000 ≤ (c140 : Rat) := by
    have h : one120 * 1000000 ≤ c140 := by decide
    have q : ((one120 * 1000000 : Nat) : Rat) ≤ ((c140 : Nat) : Rat) := by exact_mod_cast h
    have e : ((one120 * 1000000 : Nat) : Rat) = (one120 : Rat) * 1000000 := by push_cast; rfl
    rw [e] at q
    exact q
  have k : 1 ≤ x * uR := by grind
  have up := uR_pos
  have x0 := nonneg_of up (d := x) (by grind)
  have e : 1 / (c140 : Rat) * (c140 : Rat) = 1 := by grind
  generalize 1 / (c140 : Rat) = i at *
  generalize (c140 : Rat) = c at *
  have m := Rat.mul_nonneg (a := c - uR) (b := x) (by grind) x0
  have := nonneg_of p (d := x - i) (by grind)
  grind
/-- a quotient of a near number -/
theorem InU.div {e a b k : Rat} (h : InU e a b) (hk : 1 ≤ k) (he : 0 ≤ e) : InU e (a / k) (b / k) := by
  have e1 : a / k * k = a := by grind
  have e2 : b / k * k = b := by grind
  have p : 0 < k := by grind
  have h1 := h.lo
  have h2 := h.hi
  generalize a / k = q at *
  generalize b / k = r at *
  rw [← e1, ← e2] at h1 h2
  have m := Rat.mul_nonneg (a := k - 1) (b := e) (by grind) he
  have k1 := nonneg_of p (d := e - (q - r) * uR) (by grind)
  have k2 := nonneg_of p (d := e + (q - r) * uR) (by grind)
  exact ⟨by grind, by grind⟩
/-- what a round answers -/
structure RoundW (x y ox oy i cx cy sx sy kx ky px py mx my cx' cy' sx' sy' : Nat) : Prop where
  hk : ∀ w, Calls Try.prog 36 #[.int .i64 ((27 - i : Nat) : Int)] w fun r w' => r = .returned (.agg #[.float .f64 kx, .float .f64 ky]) ∧ Bel w w'
  hp : ∀ w, Calls Try.prog 39 #[.agg #[.float .f64 x, .float .f64 y], .agg #[.float .f64 kx, .float .f64 ky]] w fun r w' => r = .returned (.agg #[.float .f64 px, .float .f64 py]) ∧ Bel w w'
  hm : ∀ w, Calls Try.prog 19 #[.agg #[.float .f64 px, .float .f64 py], .agg #[.float .f64 sx, .float .f64 sy]] w fun r w' => r = .returned (.agg #[.float .f64 mx, .float .f64 my]) ∧ Bel w w'
  hc : ∀ w, Calls Try.prog 20 #[.agg #[.float .f64 ox, .float .f64 oy], .agg #[.float .f64 (Op.negFloat .f64 mx), .float .f64 (Op.negFloat .f64 my)]] w fun r w' => r = .returned (.agg #[.float .f64 cx', .float .f64 cy']) ∧ Bel w w'
  hs : ∀ w, Calls Try.prog 19 #[.agg #[.float .f64 px, .float .f64 py], .agg #[.float .f64 cx, .float .f64 cy]] w fun r w' => r = .returned (.agg #[.float .f64 sx', .float .f64 sy']) ∧ Bel w w'
/-- a state of the series -/
structure SerSt (t : Rat) (i cx cy sx sy : Nat) : Prop where
  ex : ∃ c s, DN cx cy c ∧ DN sx sy s ∧ InU eS c (nC t i) ∧ InU eS s (nS t i)
theorem low_div {q t k u B : Rat} (tk : q * k = t) (hl : B ≤ t * u) (hk : k ≤ 27) (q0 : 0 ≤ q) (u0 : 0 ≤ u) : B * (1 / 27) ≤ q * u := by
  have m := Rat.mul_nonneg (a := 27 - k) (b := q * u) (by grind) (Rat.mul_nonneg q0 u0)
  have e : q * k * u = t * u := by rw [tk]
  grind
set_option maxHeartbeats 1000000 in
theorem round_d {t z : Rat} {x y ox oy i cx cy sx sy : Nat} (ha : DN x y z) (hz : InU 11115000 z t) (h0 : 0 ≤ t) (h1 : t ≤ 4 / 5) (hl : 1000000000000 ≤ t * uR) (ho : DN ox oy 1) (hi : i < 27) (hS : SerSt t i cx cy sx sy) :
    ∃ kx ky px py mx my cx' cy' sx' sy', SerSt t (i + 1) cx' cy' sx' sy' ∧ RoundW x y ox oy i cx cy sx sy kx ky px py mx my cx' cy' sx' sy' := by
  obtain ⟨c, s, dc, ds, ec, es⟩ := hS.ex
  obtain ⟨⟨c1, c2⟩, ⟨s1, s2⟩⟩ := nst_range h0 h1 i (by omega)
  obtain ⟨k1, k2⟩ := kR hi
  obtain ⟨d1, d2⟩ := div_le h0 k1
  have hlow := nS_low h0 h1 hi
  obtain ⟨kx, ky, dk, hk⟩ := whole_d (27 - i) (Nat.le_trans (Nat.sub_le _ _) (by decide))
  have fz := hz.flat30 (by grind)
  have fc := ec.flat30 (show eS ≤ 2000000000 by unfold eS; grind)
  have fs := es.flat30 (show eS ≤ 2000000000 by unfold eS; grind)
  have t1 : (1 : Rat) ≤ (c90 : Rat) := by exact_mod_cast (show 1 ≤ c90 by decide)
  have t2 : (2 : Rat) ≤ (c90 : Rat) := by exact_mod_cast (show 2 ≤ c90 by decide)
  obtain ⟨z1, z2⟩ := fz
  obtain ⟨px, py, p, np, ep, lp, hp⟩ := quo_d (A := 1) ha dk k1 ⟨by grind, by grind⟩ t1
  have ed := hz.div k1 (by grind)
  have ept := ep.trans ed
  have tk : t / ((27 - i : Nat) : Rat) * ((27 - i : Nat) : Rat) = t := by grind
  have low1 : 1000000000000 * (1 / 27) ≤ t / ((27 - i : Nat) : Rat) * uR := by
    exact low_div tk hl k2 d1 (Rat.le_of_lt uR_pos)
  have dp := lp (low_of ept (by grind))
  have fp := ept.flat30 (by grind)
  obtain ⟨p1, p2⟩ := fp
  obtain ⟨fc1, fc2⟩ := fc
  obtain ⟨fs1, fs2⟩ := fs
  have wp : Wi p 1 := ⟨by grind, by grind⟩
  have ws : Wi s 1 := ⟨by grind, by grind⟩
  have wc : Wi c (11 / 10) := ⟨by grind, by grind⟩
  have wT : Wi (t / ((27 - i : Nat) : Rat)) (4 / 5) := ⟨by grind, by grind⟩
  obtain ⟨mx, my, m, nm, em, lm, hm⟩ := mul_d dp ds wp ws (by grind)
  have em1 := em 1 1 wp ws
  have em2 := em1.trans (prod_near ept es ws wT)
  have fm := em2.flat30 (by unfold eS; grind)
  have hTS : Wi (t / ((27 - i : Nat) : Rat) * nS t i) (4 / 5 * (4 / 5)) := wT.mul ⟨by grind, by grind⟩
  obtain ⟨fm1, fm2⟩ := fm
  obtain ⟨ts1, ts2⟩ := hTS
  obtain ⟨cx', cy', c', nc, ecc, lc, hc⟩ := add_d (X := 1) ho.np nm.neg ⟨by grind, by grind⟩ ⟨by grind, by grind⟩ (by grind)
  obtain ⟨sx', sy', s', ns, ess, ls, hs⟩ := mul_d dp dc wp wc (by grind)
  have es1 := ess 1 (11 / 10) wp wc
  have es2 := es1.trans (prod_near ept ec wc wT)
  have eC : InU eS c' (nC t (i + 1)) := by
    rw [nC_succ]
    have a1 := ecc.lo
    have a2 := ecc.hi
    have b1 := em2.lo
    have b2 := em2.hi
    unfold eS at *
    exact ⟨by grind, by grind⟩
  have eSn : InU eS s' (nS t (i + 1)) := by
    rw [nS_succ]
    exact es2.mono (by unfold eS; grind)
  obtain ⟨⟨c1', _⟩, _⟩ := nst_range h0 h1 (i + 1) (by omega)
  have up := uR_big2
  have lowC : eS + 1 ≤ nC t (i + 1) * uR := by
    have up0 := uR_pos
    have m := Rat.mul_nonneg (a := nC t (i + 1) - 9 / 25) (b := uR) (by grind) (by grind)
    unfold eS; grind
  have lowS : eS + 1 ≤ nS t (i + 1) * uR := by
    have up0 := uR_pos
    have m := Rat.mul_nonneg (a := nS t (i + 1) - t * (1 / 75)) (b := uR) (by grind) (by grind)
    unfold eS; grind
  exact ⟨kx, ky, px, py, mx, my, cx', cy', sx', sy', ⟨c', s', lc (low_of eC lowC), ls (low_of eSn lowS), eC, eSn⟩, ⟨hk, hp, hm, hc, hs⟩⟩
end Go.Proofs.Ytpifkjmdcbieoaa

/- A region that draws its order, of calls whose words are known, reads and stores into blocks of two floats that are there. -/
namespace Go.Proofs.Ytpifkjmdcbieoaa
open Go.RowKit

/-- a block: what stands in it, the operation that stores into it (if it is one of the region's) and what that leaves -/
structure Ob where
  B : Nat
  x : Nat
  y : Nat
  st : Nat
  u : Nat
  v : Nat
abbrev Vals := List (Nat × Nat × Value)
structure RegO (cs : Vals) (os : List Ob) (n : Nat) (pre : Nat → List Nat) (w0 : World) (D : Nat → Bool) (f : Nat → Value) (w : World) : Prop where
  bel : Bel w0 w
  cv : CV cs D f
  tw : ∀ o ∈ os, Two w o.B (if D o.st = true then o.u else o.x) (if D o.st = true then o.v else o.y)
  cl : ∀ i, D i = true → ∀ j ∈ pre i, D j = true
  lt : ∀ i, D i = true → i < n
/-- one operation, by its kind -/
inductive DoesO (P : Program) (ops : Array Oper) (Q : Exit → Act → World → Prop) (pre : Nat → List Nat) (act : (Nat → Value) → Act) (cs : Vals) (os : List Ob) (w0 : World) (i : Nat) : Prop where
  | value (t : Nat) (v : Value) (hm : (i, t, v) ∈ cs) (h : ∀ f w, Bel w0 w → (∀ c ∈ cs, c.1 ∈ pre i → f c.2.1 = c.2.2) → (∀ o ∈ os, (i ∈ pre o.st ∨ ops.size ≤ o.st) → Two w o.B o.x o.y) → wpOp P ops Q i (fun a' w' => a' = act (tset f t v) ∧ Bel w w') (act f) w) : DoesO P ops Q pre act cs os w0 i
  | store (o : Ob) (ho : o ∈ os) (hi : i = o.st) (hv : ∀ c ∈ cs, c.1 ≠ i) (h : ∀ f w K, (∀ c ∈ cs, c.1 ∈ pre i → f c.2.1 = c.2.2) → Two w o.B o.x o.y → K (act f) ((w.setCell ⟨o.B, 0, none⟩ (.float .f64 o.u)).setCell ⟨o.B, 1, none⟩ (.float .f64 o.v)) → wpOp P ops Q i K (act f) w) : DoesO P ops Q pre act cs os w0 i
theorem dcases {D : Nat → Bool} {i k : Nat} (h : (D k || k == i) = true) : D k = true ∨ k = i := by
  rw [Bool.or_eq_true, beq_iff_eq] at h
  exact h
theorem wp_region_ov {P : Program} {ops : Array Oper} {Q : Exit → Act → World → Prop} {pre : Nat → List Nat} {id : Nat} {w0 w1 : World} (act : (Nat → Value) → Act) (f0 : Nat → Value) (hm : P.follows .mixedOrders = true) (hc : chkN pre ops = true) (cs : Vals) (os : List Ob)
    (h1 : (cs.map (·.1)).Nodup) (h2 : (cs.map (·.2.1)).Nodup) (hB : (os.map (·.B)).Nodup) (hst : ∀ o ∈ os, ∀ o' ∈ os, o.st = o'.st → o.st < ops.size → o.B = o'.B) (hno : ∀ c ∈ cs, ∀ o ∈ os, c.1 ≠ o.st) (hw : ∀ o ∈ os, w0.heap.size ≤ o.B)
    (hb0 : Bel w0 w1) (ht0 : ∀ o ∈ os, Two w1 o.B o.x o.y)
    (hs : ∀ i, i < ops.size → DoesO P ops Q pre act cs os w0 i) (hsz : ∀ c ∈ cs, c.1 < ops.size)
    (hQ : ∀ f w, Bel w0 w → (∀ c ∈ cs, f c.2.1 = c.2.2) → (∀ o ∈ os, Two w o.B (if o.st < ops.size then o.u else o.x) (if o.st < ops.size then o.v else o.y)) → Q .normal (act f) w) : (Code.region id ops true).wp P Q (act f0) w1 := by
  refine wp_region_set (pre := pre) hm hc (fun D a w => ∃ f, a = act f ∧ RegO cs os ops.size pre w0 D f w) ⟨f0, rfl, hb0.drew, fun _ _ h => absurd h Bool.false_ne_true, fun o ho => ?_, fun _ h => absurd h Bool.false_ne_true, fun _ h => absurd h Bool.false_ne_true⟩ ?_ ?_
  · rw [if_neg Bool.false_ne_true, if_neg Bool.false_ne_true]
    exact (ht0 o ho).dr
  · rintro D a w i hi hD hp ⟨f, rfl, hI⟩
    have hcl : ∀ k, (D k || k == i) = true → ∀ j ∈ pre k, (D j || j == i) = true := fun k hk j hj => by
      rcases dcases hk with h | h
      · exact dup (hI.cl k h j hj)
      · subst h; exact dup (hp j hj)
    have hlt : ∀ k, (D k || k == i) = true → k < ops.size := fun k hk => by
      rcases dcases hk with h | h
      · exact hI.lt k h
      · subst h; exact hi
    cases hs i hi with
    | value t v hmem h =>
      have hold : ∀ o ∈ os, (i ∈ pre o.st ∨ ops.size ≤ o.st) → Two w o.B o.x o.y := fun o ho hor => by
        have hn : ¬ D o.st = true := fun hd => by
          rcases hor with h | h
          · have := hI.cl _ hd _ h
            rw [hD] at this
            exact Bool.false_ne_true this
          · exact absurd (hI.lt _ hd) (by omega)
        have := hI.tw o ho
        rwa [if_neg hn, if_neg hn] at this
      refine wpOp_mono ?_ (h f w hI.bel (fun c hc hj => hI.cv c hc (hp _ hj)) hold)
      rintro a' w' ⟨rfl, g⟩
      refine ⟨_, rfl, hI.bel.trans g, hI.cv.self i t v fun c hc => ?_, fun o ho => ?_, hcl, hlt⟩
      · by_cases h : c.1 = i
        · have := nodup_one h1 c hc _ hmem h
          subst this
          exact Or.inl ⟨rfl, rfl, rfl⟩
        · refine Or.inr ⟨h, fun ht => h ?_⟩
          have := nodup_one h2 c hc _ hmem ht
          rw [this]
      · have hne : o.st ≠ i := fun e => hno _ hmem o ho e.symm
        have e : ((D o.st || o.st == i) = true) = (D o.st = true) := propext ⟨dn hne, dup⟩
        simp only [e]
        exact (hI.tw o ho).by g
    | store o ho hi' hv h =>
      have hn : ¬ D o.st = true := by rw [← hi', hD]; exact Bool.false_ne_true
      have hT := hI.tw o ho
      rw [if_neg hn, if_neg hn] at hT
      refine h f w _ (fun c hc hj => hI.cv c hc (hp _ hj)) hT ?_
      refine ⟨_, rfl, (hI.bel.setCell (p := ⟨o.B, 0, none⟩) (hw o ho) _).setCell (p := ⟨o.B, 1, none⟩) (hw o ho) _, hI.cv.none i hv, fun o' ho' => ?_, hcl, hlt⟩
      by_cases e : o'.B = o.B
      · have := nodup_one hB o' ho' o ho e
        subst this
        rw [if_pos (by rw [← hi']; simp), if_pos (by rw [← hi']; simp)]
        exact hT.set _ _
      · have hne : o'.st ≠ i := fun e2 => e (hst o' ho' o ho (e2.trans hi') (by omega))
        have e3 : ((D o'.st || o'.st == i) = true) = (D o'.st = true) := propext ⟨dn hne, dup⟩
        simp only [e3]
        exact (hI.tw o' ho').so e _ _
  · rintro D a w hD ⟨f, rfl, hI⟩
    refine hQ f w hI.bel (fun c hc => hI.cv c hc (hD _ (hsz c hc))) fun o ho => ?_
    have := hI.tw o ho
    have e : (D o.st = true) = (o.st < ops.size) := propext ⟨hI.lt _, hD _⟩
    simp only [e] at this
    exact this
end Go.Proofs.Ytpifkjmdcbieoaa

/- 'return c, s' of two results that lie in cells. -/
namespace Go.Proofs.Ytpifkjmdcbieoaa
open Go.RowKit

def retPre (i : Nat) : List Nat := match i with | 2 => [0] | 3 => [1, 2] | _ => []
theorem ret_two {Q : Exit → Act → World → Prop} {ops : Array Oper} {id : Nat} {w0 w1 : World} (a0 : Act) (p q a b B1 B2 x y u v : Nat)
    (hops : ∃ y0 y1 y2 y3 q0 q1 q2 q3 f0 f1 f2 f3, ops = #[
      { dst := some a, op := .load 30 (.tmp p), type := y0, pos := q0, after := f0, guard := none },
      { dst := some b, op := .load 30 (.tmp q), type := y1, pos := q1, after := f1, guard := none },
      { dst := none, op := .store 30 (.tmp p) (.tmp a), type := y2, pos := q2, after := f2, guard := none },
      { dst := none, op := .store 30 (.tmp q) (.tmp b), type := y3, pos := q3, after := f3, guard := none }])
    (hchk : chkN retPre ops = true) (ha : a < a0.tmps.size) (hb : b < a0.tmps.size) (hpq : p ∉ [a, b] ∧ q ∉ [a, b] ∧ a ≠ b)
    (e1 : a0.eval (.tmp p) = .pointer (some ⟨B1, 0, none⟩)) (e2 : a0.eval (.tmp q) = .pointer (some ⟨B2, 0, none⟩)) (hB : B1 ≠ B2) (h1 : w0.heap.size ≤ B1) (h2 : w0.heap.size ≤ B2) (hw : Bel w0 w1) (t1 : Two w1 B1 x y) (t2 : Two w1 B2 u v)
    (hQ : ∀ f w, Bel w0 w → Two w B1 x y → Two w B2 u v → Q .normal (actOf a0 [a, b] f) w) : (Code.region id ops true).wp Try.prog Q a0 w1 := by
  obtain ⟨y0, y1, y2, y3, q0, q1, q2, q3, g0, g1, g2, g3, rfl⟩ := hops
  obtain ⟨n1, n2, n3⟩ := hpq
  have out : ∀ f t, t ∉ [a, b] → (actOf a0 [a, b] f).eval (.tmp t) = a0.eval (.tmp t) := fun f t h => actOf_out a0 _ f h
  have inn : ∀ f t, t ∈ [a, b] → t < a0.tmps.size → (actOf a0 [a, b] f).eval (.tmp t) = f t := fun f t h h2 => actOf_in a0 _ f h h2
  rw [← actOf_self a0 [a, b]]
  refine wp_region_ov (pre := retPre) (w0 := w0) (actOf a0 [a, b]) (fun t => a0.eval (.tmp t)) (by kernel_rfl) hchk [(0, a, .agg #[.float .f64 x, .float .f64 y]), (1, b, .agg #[.float .f64 u, .float .f64 v])] [⟨B1, x, y, 2, x, y⟩, ⟨B2, u, v, 3, u, v⟩]
    (by simp) (by simp [n3]) (by simp [hB]) (by simp) (by simp) (by simp [h1, h2]) hw (by simp [t1, t2]) ?_ (by simp) ?_
  · intro i hi
    have hi : i < 4 := hi
    match i, hi with
    | 0, _ => exact .value a (.agg #[.float .f64 x, .float .f64 y]) (by simp) fun f w hB h ht => wpOp_go rfl rfl (step_load (d := some a) rfl rfl ((out f p n1).trans e1) (load_num (ht ⟨B1, x, y, 2, x, y⟩ (by simp) (by simp [retPre]))) ⟨actOf_put _ _ _ (by simp) _, Bel.refl _⟩)
    | 1, _ => exact .value b (.agg #[.float .f64 u, .float .f64 v]) (by simp) fun f w hB h ht => wpOp_go rfl rfl (step_load (d := some b) rfl rfl ((out f q n2).trans e2) (load_num (ht ⟨B2, u, v, 3, u, v⟩ (by simp) (by simp [retPre]))) ⟨actOf_put _ _ _ (by simp) _, Bel.refl _⟩)
    | 2, _ => exact .store ⟨B1, x, y, 2, x, y⟩ (by simp) rfl (by simp) fun f w K h ht hK => wpOp_go rfl rfl (step_store (d := none) rfl rfl ((out f p n1).trans e1) ((inn f a (by simp) ha).trans (h (0, a, .agg #[.float .f64 x, .float .f64 y]) (by simp) (by simp [retPre]))) ht hK)
    | 3, _ => exact .store ⟨B2, u, v, 3, u, v⟩ (by simp) rfl (by simp) fun f w K h ht hK => wpOp_go rfl rfl (step_store (d := none) rfl rfl ((out f q n2).trans e2) ((inn f b (by simp) hb).trans (h (1, b, .agg #[.float .f64 u, .float .f64 v]) (by simp) (by simp [retPre]))) ht hK)
  · intro f w hb hc ht
    have k1 := ht ⟨B1, x, y, 2, x, y⟩ (by simp)
    have k2 := ht ⟨B2, u, v, 3, u, v⟩ (by simp)
    exact hQ f w hb (by simpa using k1) (by simpa using k2)
end Go.Proofs.Ytpifkjmdcbieoaa
