/- Merged texts: LIndexThere0, LIndexDigits0, LIndexStrides0, LIndexReverse0, BackP7, LIndexTransposes0, LIndexBack0, GatC7, ScaC7. -/
import Derived.Test.YtniljnidpcgjgaaM3
import Derived.Deep.DeepCutAuto
import Derived.Test.YtniljnidpcgjgaaM2
/- IndexThere's whole walk. -/
namespace Go.Proofs.Ytniljnidpcgjgaa
open Go.RowKit
set_option linter.unusedVariables false

theorem bne_f {a b : Int} (h : a = b) : (a != b) = false := by subst h; exact bne_self_eq_false _
set_option maxRecDepth 10000 in
set_option maxHeartbeats 8000000 in
theorem there7 (hwk : WakesSaid7) (hG : GatSaid7) (hS : ScaSaid7) (hS0 : ScaNil7) (p : Option Addr) (n ca : Nat) (zs : List Int) (o s c : Int) (w : World) (hA : IL w p n zs) (hn : n * 8 ≤ 140737488351232) (hz64 : ∀ z ∈ zs, I64 z) (ho : I64 o) (hs : I64 s) (hc : I64 c) :
    Calls Try.prog 9 #[.slice p n ca, .agg #[.int .i64 o, .int .i64 s, .int .i64 c]] w fun r w' => r = .returned (.bool true) ∧ Bel w w' := by
  have hlen := hA.len
  have sf := run_store_int Try.prog
  have h2 := fun w' (g : Bel w w') => hG p n ca zs o s c w' (hA.bel g) hn ho hs hc
  obtain ⟨e, he⟩ : ∃ e, e = strE n o s c := ⟨_, rfl⟩
  rw [← he] at h2
  have HA := Lib.hid hA
  have HEE := Lib.hid he
  have HZ := Lib.hid hz64
  have HO := Lib.hid ho
  have HS := Lib.hid hs
  have key : ∀ w1 : World, w1 = w.alloc (.cells #[.int .i64 o, .int .i64 s, .int .i64 c] 42) → w1.cell? ⟨w.heap.size, 0, none⟩ = some (.int .i64 o) ∧ w1.cell? ⟨w.heap.size, 1, none⟩ = some (.int .i64 s) ∧ w.heap.size < w1.heap.size ∧ Bel w w1 := by
    rintro w1 rfl
    refine ⟨?_, ?_, by simp, (Bel.refl w).alloc _⟩ <;> (rw [World.cell?_alloc_new]; rfl)
  clear hA hG he hz64 ho hs hc
  go_enter Try.func9, Try.ntmps9
  go_wp2_with fail
  obtain ⟨w1, hw1⟩ : ∃ w1, w1 = w.alloc (.cells #[.int .i64 o, .int .i64 s, .int .i64 c] 42) := ⟨_, rfl⟩
  obtain ⟨k0, k1, kl, b1⟩ := key w1 hw1
  obtain ⟨X, hX⟩ : ∃ X, X = w.heap.size := ⟨_, rfl⟩
  rw [← hw1]
  rw [← hX] at k0 k1 kl ⊢
  clear key hw1 hX
  refine (h2 _ b1).mono ?_; rintro r w2 ⟨qg, mg, cg, rfl, hgl, g2⟩
  clear h2
  obtain ⟨em1, em2⟩ := gl_len hlen hgl
  rw [← HEE.out] at em1 em2
  go_wp2_with fail
  refine (hwk _).mono ?_; rintro r w3 ⟨rfl, g3⟩
  have hgl3 := hgl.bel g3
  have g13 := g2.trans g3
  clear hgl g2 g3
  rcases Classical.em (e = 0) with hne | hne
  · have hE0 := HEE.out.symm.trans hne
    have emc := em1 hne
    have HC := Lib.hid emc
    have HE0 := Lib.hid hE0
    have hmn : mg ≤ n := by
      have := gat_bound (zs := zs) (o := o) (s := s) (c := c) (by rw [hlen]; exact hE0)
      omega
    subst hne
    clear em1 em2 HEE hE0 emc
    go_wp2_with (at_builtin; refine wpList_copy _ rfl _ rfl p n ca zs rfl (HA.out.bel (b1.trans g13)) (by omega) ?_)
    intro qo co w4 hgo g4
    have s3 : w1.heap.size ≤ w3.heap.size := g13.size
    have s31 : w.heap.size ≤ w1.heap.size := b1.size
    have hgl4 := hgl3.bel g4
    have g14 := g13.trans g4
    rcases hgo.form with h0 | ⟨G, og, rfl, hGb, hW⟩
    · have hm0 : mg = 0 := by omega
      have hst : strE 0 o s 0 = 0 := by
        have h := HE0.out
        rw [h0] at h
        have hc0 : c = 0 := by rw [← HC.out, hm0]; rfl
        rw [hc0] at h
        exact h
      have hq0 := fun (w' : World) (cc : Nat) => hS0 qo cc qg 0 cg [] o s w' (IL.nil _ _) (by omega) HO.out HS.out
      have m0 := fun (w' : World) (g : Bel w1 w') => (g.cell (p := ⟨X, 0, none⟩) kl).trans k0
      have m1 := fun (w' : World) (g : Bel w1 w') => (g.cell (p := ⟨X, 1, none⟩) kl).trans k1
      have hst' : strE 0 o s ((0 : Nat) : Int) = 0 := hst
      rw [hst'] at hq0
      have n0 := m0 _ g14
      have n1 := m1 _ g14
      rw [h0, hm0]
      clear hgo hgl3 hgl4 g13 g4 hS hS0 HA HZ HO HS HC HE0 hst hst' k0 k1 hm0
      go_wp2_with fail
      refine (hq0 _ _).mono ?_; rintro r w5 ⟨rfl, g5⟩
      have g15 := g14.trans g5
      clear g14 g5 n0 n1
      go_wp2_with fail
      refine (same_ints _ _ 0 _ _ [] _ (IL.nil _ _) (IL.nil _ _) (by omega)).mono ?_; rintro r w6 ⟨rfl, g6⟩
      have g16 := g15.trans g6
      have n0 := m0 _ g16
      have n1 := m1 _ g16
      clear g15 g6
      go_wp2
      go_loopw [8, 52] (fun _ a wr => a = .int .i64 0 ∧ wr = w6) (fun _ _ _ => 0)
      case atStart => exact ⟨rfl, rfl⟩
      case round =>
        obtain ⟨rfl, rfl⟩ := hrel
        go_wp2_with fail
        refine (hq0 _ _).mono ?_; rintro r w7 ⟨rfl, g7⟩
        have b7 := (b1.trans g16).trans g7
        clear hq0 m0 m1 n0 n1 g16 g7 b1
        go_wp2
        go_loopw [9, 10, 72] (fun a _ b wr => a = .int .i64 0 ∧ b = .int .i64 0 ∧ wr = w7) (fun _ _ _ _ => 0)
        case atStart => exact ⟨rfl, rfl, rfl⟩
        case round =>
          obtain ⟨rfl, rfl, rfl⟩ := hrel
          go_wp2
          go_ret
          exact ⟨rfl, b7⟩
    · have hap : mg = 0 ∨ ∀ B b, qg = some ⟨B, b, none⟩ → B ≠ G := by
        rcases hgl3.form with h | ⟨B', b', e1, _, e2⟩
        · exact Or.inl h
        · refine Or.inr fun B b e => ?_
          rw [e1] at e
          injection e with e
          injection e with e
          have := e2.lt
          omega
      have hst : strE (n : Int) o s (mg : Nat) = 0 := by rw [HC.out]; exact HE0.out
      have hsc := hS G og n co zs qg mg cg (gatL zs o s c) o s _ hW hgl4.il hap (by omega) (by omega) HO.out HS.out
      have hz0 : strE zs.length o s c = 0 := by rw [hlen]; exact HE0.out
      rw [hst, sca_back hz0 HC.out] at hsc
      have m0 := (g14.cell (p := ⟨X, 0, none⟩) kl).trans k0
      have m1 := (g14.cell (p := ⟨X, 1, none⟩) kl).trans k1
      clear hgo hgl3 g13 g4 hW
      go_wp2_with fail
      refine hsc.mono ?_; rintro r w5 ⟨rfl, t5, hW5⟩
      have g15 := g14.then t5 (by omega)
      have hgl5 : GL w1 w5 qg mg (gatL zs o s c) := by
        refine ⟨hgl4.len, ?_⟩
        rcases hap with h | h
        · exact Or.inl h
        · rcases hgl4.form with h' | ⟨B', b', e1, e2, e3⟩
          · exact Or.inl h'
          · exact Or.inr ⟨B', b', e1, e2, e3.touch t5 (h B' b' e1)⟩
      clear hsc t5 hgl4 g14 m0 m1
      go_wp2_with fail
      refine (same_ints _ _ _ _ _ _ _ hW5.il (HA.out.bel (b1.trans g15)) (by omega)).mono ?_; rintro r w6 ⟨rfl, g6⟩
      have g16 := g15.trans g6
      have hgl6 := hgl5.bel g6
      have hW6 := hW5.bel g6
      obtain ⟨D, hD⟩ : ∃ D, D = gatL zs o s c := ⟨_, rfl⟩
      rw [← hD] at hgl6
      have hDl : D.length = mg := hgl6.len
      have HD := Lib.hid hD
      have HDL := Lib.hid hDl
      have HAP := Lib.hid hap
      have hL0 : ∀ (j : Nat) z, D[j]? = some z → D[j]? = some (if j < 0 then bump z else z) := fun j z h => by rw [if_neg (by omega)]; exact h
      have HW6 := Lib.hid (show w1.heap.size ≤ G by omega)
      have HST := Lib.hid hst
      clear hgl5 hW5 g15 g6 hD hDl hap s31 hst hz0
      go_wp2
      go_loopw [8, 52] (fun _ a wr => ∃ (i : Nat) (L : List Int), i ≤ mg ∧ a = .int .i64 (i : Int) ∧ GL w1 wr qg mg L ∧ (∀ (j : Nat) z, D[j]? = some z → L[j]? = some (if j < i then bump z else z)) ∧ WL wr G og n zs ∧ Bel w1 wr) (fun _ a _ => mg - (intOf a).toNat)
      case atStart => exact ⟨0, D, by omega, by simp, hgl6, hL0, hW6, g16⟩
      case round =>
        obtain ⟨i, L, hi, rfl, hgl, hL, hW, hB⟩ := hrel
        clear hgl6 hL0 hW6 g16
        by_cases hlt : i < mg
        · obtain ⟨z, hz⟩ : ∃ z, D[i]? = some z := ⟨_, List.getElem?_eq_getElem (by rw [HDL.out]; exact hlt)⟩
          rcases hgl.form with h | ⟨Gg, og', rfl, hGg, hWg⟩
          · omega
          have hne : Gg ≠ G := by
            rcases HAP.out with h | h
            · omega
            · exact h Gg og' rfl
          have hLi := hL i z hz
          rw [if_neg (Nat.lt_irrefl i)] at hLi
          have q0 := hWg.c i z hLi
          have q1 := hWg.z i hlt
          obtain ⟨bz, hbz⟩ : ∃ bz, bz = bump z := ⟨_, rfl⟩
          have hb : IntKind.i64.wrap (z + 1) = bz := hbz.symm
          obtain ⟨w7, hw7⟩ : ∃ w7, w7 = wr.setCell ⟨Gg, og' + i, none⟩ (.int .i64 bz) := ⟨_, rfl⟩
          have hWg7 : WL w7 Gg og' mg (L.set i bz) := by rw [hw7]; exact hWg.set hlt bz
          have hW7 : WL w7 G og n zs := by rw [hw7]; exact hW.other (Ne.symm hne) _
          have hB7 : Bel w1 w7 := by rw [hw7]; exact hB.setCell (p := ⟨Gg, og' + i, none⟩) hGg _
          have hL7 : ∀ (j : Nat) z, D[j]? = some z → (L.set i bz)[j]? = some (if j < i + 1 then bump z else z) := by
            intro j z' hz'
            by_cases e : j = i
            · subst e
              have : z' = z := by rw [hz] at hz'; exact (Option.some.inj hz').symm
              rw [if_pos (by omega), List.getElem?_set_self (by rw [hWg.len]; exact hlt), this, hbz]
            · rw [List.getElem?_set_ne (fun k => e k.symm), hL j z' hz']
              by_cases e2 : j < i
              · rw [if_pos e2, if_pos (by omega)]
              · rw [if_neg e2, if_neg (by omega)]
          have HW7 := Lib.hid hw7
          have hgl7 : GL w1 w7 (some ⟨Gg, og', none⟩) mg (L.set i bz) := ⟨hWg7.len, Or.inr ⟨Gg, og', rfl, hGg, hWg7⟩⟩
          clear hw7 hz hLi hL hWg hWg7 hW hB hgl hbz HA HZ HO HS HC HE0 HD HST hS hS0
          go_wp2
          go_roundw
          case rel =>
            rw [← HW7.out]
            exact ⟨i + 1, _, by omega, (by first | rfl | simp), hgl7, hL7, hW7, hB7⟩
          case measure => first | (simp [intOf]; done) | (simp [intOf]; omega)
        · have hLD : L = D.map bump := by
            refine List.ext_getElem? fun j => ?_
            rw [List.getElem?_map]
            cases hz : D[j]? with
            | none =>
              have := List.getElem?_eq_none_iff.1 hz
              exact List.getElem?_eq_none (by rw [hgl.len]; rw [HDL.out] at this; exact this)
            | some z =>
              have hj := (List.getElem?_eq_some_iff.1 hz).1
              rw [hL j z hz, if_pos (by rw [HDL.out] at hj; omega)]; rfl
          subst hLD
          have m0 := (hB.cell (p := ⟨X, 0, none⟩) kl).trans k0
          have m1 := (hB.cell (p := ⟨X, 1, none⟩) kl).trans k1
          have hsc := hS G og n co zs qg mg cg (D.map bump) o s _ hW hgl.il HAP.out (by omega) (by omega) HO.out HS.out
          rw [HST.out] at hsc
          clear hL hgl hW
          go_wp2_with fail
          refine hsc.mono ?_; rintro r w8 ⟨rfl, t8, hW8⟩
          have b8 := (b1.trans hB).then t8 (by have := HW6.out; have := b1.size; omega)
          clear hsc t8 m0 m1 hB b1 hS hS0 k0 k1 kl
          go_wp2
          go_loopw [9, 10, 72] (fun a _ b wr => ∃ (k j : Nat), j ≤ n ∧ a = .int .i64 (k : Int) ∧ b = .int .i64 (j : Int) ∧ Hits o s mg k j ∧ Bel w8 wr) (fun _ _ b _ => n - (intOf b).toNat)
          case atStart => exact ⟨0, 0, by omega, by simp, by simp, hits_zero (strE_zero HE0.out).1, Bel.refl _⟩
          case round =>
            obtain ⟨k, j, hj, rfl, rfl, hh, hB⟩ := hrel
            have hkg : k ≤ mg := hh.1
            by_cases hlt : j < n
            · obtain ⟨A, oa, z, rfl, hAl, hz, hAc⟩ := HA.out.at hlt
              have hjz : j < zs.length := by omega
              have kA := ((b8.trans hB).cell (p := ⟨A, oa + j, none⟩) hAl).trans hAc
              have kG := (hB.cell (p := ⟨G, og + j, none⟩) hW8.lt).trans (hW8.c j _ (sca_at hjz))
              have sA := Nat.lt_of_lt_of_le hAl (b8.trans hB).size
              have sG := Nat.lt_of_lt_of_le hW8.lt hB.size
              have hzd : zs.getD j 0 = z := by rw [List.getD_eq_getElem?_getD, hz]; rfl
              have hE : strE zs.length o s c = 0 := by rw [hlen]; exact HE0.out
              obtain ⟨v1, v2⟩ := sca_bump hE HC.out hjz
              rw [← HD.out, hzd] at v1 v2
              have hzz := HZ.out z (List.mem_of_getElem? hz)
              obtain ⟨h1, h2⟩ := hits_step (strE_zero HE0.out).2.2.1 hh
              clear hAc hz hzd hE HA HZ HO HS HC HE0 HD HDL HST
              by_cases hit : Hit o s mg j
              · obtain ⟨hk1, hN⟩ := h1 hit
                rw [v1 hit] at kG
                have hne : (bump z != z) = true := by rw [bne_iff_ne]; exact bump_ne hzz
                have HN := Lib.hid hN
                clear v1 v2 h1 h2 hit hh hN hzz
                go_upto_region 18 with fail
                refine there7_reg _ A G oa og n ca co j (bump z) z ⟨_, rfl, rfl, rfl, rfl⟩ ⟨_, rfl, rfl, rfl, rfl⟩ ⟨_, rfl, rfl, rfl, rfl⟩ ⟨_, rfl, rfl, rfl, rfl⟩ ⟨_, rfl, rfl, rfl, rfl⟩ ⟨_, rfl, rfl, rfl, rfl⟩ ⟨_, rfl, rfl, rfl, rfl⟩ ⟨_, rfl, rfl, rfl, rfl⟩ ⟨_, rfl, rfl, rfl, rfl⟩ rfl (by decide +kernel) rfl rfl rfl rfl hlt (fun w' h => (h.cell sG).trans kG) (fun w' h => (h.cell sA).trans kA) ?_
                intro f w9 g9 hf
                have b9 := hB.trans g9
                rw [hne] at hf
                clear g9 hB kA kG sA sG hne
                unfold actOf
                simp only [List.mapIdx_toArray, List.mapIdx_cons, List.mapIdx_nil, List.mem_cons, List.mem_nil_iff, Nat.reduceEqDiff, Nat.reduceAdd, or_false, or_true, if_true, if_false, hf]
                go_wp2
                go_roundw
                case rel => exact ⟨k + 1, j + 1, by omega, (by first | rfl | simp), (by first | rfl | simp), HN.out, b9⟩
                case measure => first | (simp [intOf]; done) | (simp [intOf]; omega)
              · have hN := h2 hit
                rw [v2 hit] at kG
                have hne : (z != z) = false := bne_self_eq_false _
                have HN := Lib.hid hN
                clear v1 v2 h1 h2 hit hh hN hzz
                go_upto_region 18 with fail
                refine there7_reg _ A G oa og n ca co j z z ⟨_, rfl, rfl, rfl, rfl⟩ ⟨_, rfl, rfl, rfl, rfl⟩ ⟨_, rfl, rfl, rfl, rfl⟩ ⟨_, rfl, rfl, rfl, rfl⟩ ⟨_, rfl, rfl, rfl, rfl⟩ ⟨_, rfl, rfl, rfl, rfl⟩ ⟨_, rfl, rfl, rfl, rfl⟩ ⟨_, rfl, rfl, rfl, rfl⟩ ⟨_, rfl, rfl, rfl, rfl⟩ rfl (by decide +kernel) rfl rfl rfl rfl hlt (fun w' h => (h.cell sG).trans kG) (fun w' h => (h.cell sA).trans kA) ?_
                intro f w9 g9 hf
                have b9 := hB.trans g9
                rw [hne] at hf
                clear g9 hB kA kG sA sG hne
                unfold actOf
                simp only [List.mapIdx_toArray, List.mapIdx_cons, List.mapIdx_nil, List.mem_cons, List.mem_nil_iff, Nat.reduceEqDiff, Nat.reduceAdd, or_false, or_true, if_true, if_false, hf]
                go_wp2
                go_roundw
                case rel => exact ⟨k, j + 1, by omega, rfl, (by first | rfl | simp), HN.out, b9⟩
                case measure => first | (simp [intOf]; done) | (simp [intOf]; omega)
            · have hjn : j = n := by omega
              have hkm : k = mg := hits_end HST.out (by omega) hh
              have b9 := b8.trans hB
              have t1 : ((k : Int) == (mg : Int)) = true := by rw [beq_iff_eq]; omega
              clear hh HA HZ HO HS HC HE0 HD HDL HST b8 hB hW8 hkm
              go_wp2
              go_ret
              exact ⟨ret_bool (by simp), b9⟩
  · have em := em2 hne
    subst em
    clear em1 em2 HEE hgl3 hS hS0 HA HZ HO HS
    have t2 : (e != 0) = true := by rw [bne_iff_ne]; exact hne
    go_wp2_with fail
    refine (hwk _).mono ?_; rintro r w4 ⟨rfl, g4⟩
    have b4 := (b1.trans g13).trans g4
    clear g13 g4 b1 hne
    go_wp2
    go_ret
    exact ⟨rfl, b4⟩
end Go.Proofs.Ytniljnidpcgjgaa

/- IndexDigits' whole walk. -/
namespace Go.Proofs.Ytniljnidpcgjgaa
open Go.RowKit

set_option maxHeartbeats 2000000 in
theorem digits7 (hwk : WakesSaid7) (hD : DigSaid7) (hN : NumSaid7) (k : Int) (p q : Option Addr) (n m ca cb : Nat) (ds rs : List Int) (w : World) (hA : IL w p n ds) (hB : IL w q m rs) (hn : n * 8 ≤ 140737488351232) (hm : m * 8 ≤ 140737488351232) (hk : -9223372036854775808 ≤ k ∧ k ≤ 9223372036854775807) :
    Calls Try.prog 3 #[.int .i64 k, .slice p n ca, .slice q m cb] w fun r w' => r = .returned (.bool true) ∧ Bel w w' := by
  obtain ⟨de, hde⟩ : ∃ de, de = digE k rs := ⟨_, rfl⟩
  obtain ⟨dl, hdl⟩ : ∃ dl, dl = digL k rs := ⟨_, rfl⟩
  have hlen : dl.length ≤ m := by rw [hdl, ← hB.len]; exact digL_len k rs
  obtain ⟨nr, hnr⟩ : ∃ nr, nr = numR ds rs := ⟨_, rfl⟩
  have h1 := fun w' (g : Bel w w') => hD k q m cb rs w' (hB.bel g) hm hk
  have h2 := fun w' (g : Bel w w') => refdig_run k q m cb rs w' (hB.bel g) (by omega) hk.2
  have h3 := fun w' (g : Bel w w') => hN p q n m ca cb ds rs w' (hA.bel g) (hB.bel g) hn hm
  have h4 := fun w' (g : Bel w w') => num_run p q n m ca cb ds rs w' (hA.bel g) (hB.bel g) (by omega) (by omega)
  rw [← hde, ← hdl] at h1 h2
  rw [← hnr] at h3 h4
  obtain ⟨v, e⟩ := nr
  simp only at h3 h4
  clear hde hdl hnr hA hB hD hN
  go_enter Try.func3, Try.ntmps3
  go_wp2_with fail
  refine (h1 _ (Bel.refl _)).mono ?_; rintro r w1 ⟨q1, m1, c1, rfl, l1, g1⟩
  go_wp2_with fail
  refine (h2 _ g1).mono ?_; rintro r w2 ⟨q2, m2, c2, rfl, l2, g2⟩
  have G2 := g1.trans g2
  go_wp2_with fail
  refine (h3 _ G2).mono ?_; rintro r w3 ⟨rfl, g3⟩
  go_wp2_with fail
  refine (h4 _ (G2.trans g3)).mono ?_; rintro r w4 ⟨rfl, g4⟩
  go_wp2_with fail
  refine (hwk _).mono ?_; rintro r w5 ⟨rfl, g5⟩
  have em : m2 = m1 := by rw [← l1.len, ← l2.len]
  subst em
  have hm2 : m2 ≤ m := l1.short hlen
  have L1 := (((l1.bel g2).bel g3).bel g4).bel g5
  have L2 := ((l2.bel g3).bel g4).bel g5
  have G5 := ((G2.trans g3).trans g4).trans g5
  clear h1 h2 h3 h4 l1 l2 g1 g2 g3 g4 g5 G2 hlen
  go_wp2_with fail
  refine (same_ints _ _ _ _ _ _ _ L1 L2 (by omega)).mono ?_; rintro r w6 ⟨rfl, g6⟩
  have G6 := G5.trans g6
  clear L1 L2 G5 g6
  go_wp2
  go_ret
  exact ⟨ret_bool (by simp), G6⟩
end Go.Proofs.Ytniljnidpcgjgaa

/- IndexStrides' whole walk. -/
namespace Go.Proofs.Ytniljnidpcgjgaa
open Go.RowKit
set_option linter.unusedVariables false

theorem bne_false {a b : Int} (h : a = b) : (a != b) = false := by subst h; exact bne_self_eq_false _
set_option maxRecDepth 10000 in
set_option maxHeartbeats 8000000 in
theorem strides7 (hwk : WakesSaid7) (hG : GatSaid7) (hS : ScaSaid7) (hS0 : ScaNil7) (p q : Option Addr) (n m ca cb : Nat) (zs fs : List Int) (o s u c : Int) (w : World) (hA : IL w p n zs) (hB : IL w q m fs) (hn : n * 8 ≤ 140737488351232) (hm : m * 8 ≤ 140737488351232) (ho : I64 o) (hs : I64 s) (hu : I64 u)
    (hc : (¬ 5000 < u ∧ c = u) ∨ (5000 < u ∧ o < 0 ∧ c = u) ∨ (5000 < u ∧ 0 ≤ o ∧ s < 1 ∧ c = u) ∨ (5000 < u ∧ 0 ≤ o ∧ 1 ≤ s ∧ c = 5000)) :
    Calls Try.prog 6 #[.slice p n ca, .agg #[.int .i64 o, .int .i64 s, .int .i64 u], .slice q m cb] w fun r w' => r = .returned (.bool true) ∧ Bel w w' := by
  have hci : I64 c := by unfold I64 at *; omega
  obtain ⟨o1, o2⟩ := ho
  obtain ⟨s1, s2⟩ := hs
  obtain ⟨u1, u2⟩ := hu
  have hlen := hA.len
  have hlenB := hB.len
  have h1 := fun w => str_run n o s c w (by omega) (by omega) hci.2 s2
  have h2 := fun w' (g : Bel w w') => hG p n ca zs o s c w' (hA.bel g) hn ⟨o1, o2⟩ ⟨s1, s2⟩ hci
  have h3 := fun w => str_run n o s m w (by omega) (by omega) (by omega) s2
  obtain ⟨e, he⟩ : ∃ e, e = strE n o s c := ⟨_, rfl⟩
  rw [← he] at h1 h2
  have h024 : e = 0 ∨ e = 2 ∨ e = 4 := by rw [he]; exact strE_two _ _ _ _
  have hub : e = 0 → c ≤ (n : Int) := fun h => by
    have := gat_bound (zs := zs) (o := o) (s := s) (c := c) (by rw [hlen, ← he]; exact h)
    omega
  have HA := Lib.hid hA
  have HB := Lib.hid hB
  have HC := Lib.hid hci
  have HEE := Lib.hid he
  clear hA hB hG hci he
  have key : ∀ w1 : World, w1 = w.alloc (.cells #[.int .i64 o, .int .i64 s, .int .i64 u] 42) → w1.cell? ⟨w.heap.size, 0, none⟩ = some (.int .i64 o) ∧ w1.cell? ⟨w.heap.size, 1, none⟩ = some (.int .i64 s) ∧ w1.cell? ⟨w.heap.size, 2, none⟩ = some (.int .i64 u) ∧ w.heap.size < w1.heap.size ∧ Bel w w1 := by
    rintro w1 rfl
    refine ⟨?_, ?_, ?_, by simp, (Bel.refl w).alloc _⟩ <;> (rw [World.cell?_alloc_new]; rfl)
  go_enter Try.func6, Try.ntmps6
  go_upto_region 1 with fail
  obtain ⟨w1, hw1⟩ : ∃ w1, w1 = w.alloc (.cells #[.int .i64 o, .int .i64 s, .int .i64 u] 42) := ⟨_, rfl⟩
  obtain ⟨k0, k1, k2, kl, b1⟩ := key w1 hw1
  obtain ⟨X, hX⟩ : ∃ X, X = w.heap.size := ⟨_, rfl⟩
  rw [← hw1]
  rw [← hX] at k0 k1 k2 kl ⊢
  clear key hw1 hX
  refine abc7_reg _ X o s u ⟨_, rfl, rfl, rfl, rfl⟩ ⟨_, rfl, rfl, rfl, rfl⟩ ⟨_, rfl, rfl, rfl, rfl⟩ ⟨_, rfl, rfl, rfl, rfl⟩ ⟨_, rfl, rfl, rfl, rfl⟩ ⟨_, rfl, rfl, rfl, rfl⟩ ⟨_, rfl, rfl, rfl, rfl⟩ ⟨_, rfl, rfl, rfl, rfl⟩ ⟨_, rfl, rfl, rfl, rfl⟩  rfl (by decide +kernel) rfl rfl (fun w' h => (h.cell kl).trans k0) (fun w' h => (h.cell kl).trans k1) (fun w' h => (h.cell kl).trans k2) ?_
  intro f w2 g2 f7 f8 f9
  have b2 := b1.trans g2
  clear k0 k1 k2 kl b1 g2
  unfold actOf
  simp only [List.mapIdx_toArray, List.mapIdx_cons, List.mapIdx_nil, List.mem_cons, List.mem_nil_iff, Nat.reduceEqDiff, Nat.reduceAdd, or_false, or_true, if_true, if_false, f7, f8, f9]
  clear f7 f8 f9
  obtain ⟨B, hB⟩ : ∃ B : Bool, (B = false ∧ c = u ∧ (¬ 5000 < u ∨ (5000 < u ∧ o < 0) ∨ (5000 < u ∧ 0 ≤ o ∧ s < 1))) ∨ (B = true ∧ c = 5000 ∧ 5000 < u ∧ 0 ≤ o ∧ 1 ≤ s) := by
    rcases hc with ⟨q1, q2⟩ | ⟨q1, q2, q3⟩ | ⟨q1, q2, q3, q4⟩ | ⟨q1, q2, q3, q4⟩
    · exact ⟨false, Or.inl ⟨rfl, q2, Or.inl q1⟩⟩
    · exact ⟨false, Or.inl ⟨rfl, q3, Or.inr (Or.inl ⟨q1, q2⟩)⟩⟩
    · exact ⟨false, Or.inl ⟨rfl, q4, Or.inr (Or.inr ⟨q1, q2, q3⟩)⟩⟩
    · exact ⟨true, Or.inr ⟨rfl, q4, q1, q2, q3⟩⟩
  clear hc
  go_upto_region 2 with fail
  go_cut [34] (fun b wx => b = .bool B ∧ wx = w2)
  case first =>
    rcases hB with ⟨rfl, _, q | ⟨q, q'⟩ | ⟨q, q', q''⟩⟩ | ⟨rfl, _, q, q', q''⟩ <;>
    · go_wp2
      go_meet
      case rel => first | exact ⟨rfl, rfl⟩ | exact ⟨congrArg Value.bool (decide_eq_false (by omega)), rfl⟩ | exact ⟨congrArg Value.bool (decide_eq_true (by omega)), rfl⟩
  case rest =>
    obtain ⟨rfl, rfl⟩ := hcut
    have HBB : Hid ((B = false ∧ c = u) ∨ (B = true ∧ c = 5000)) := Lib.hid (by rcases hB with ⟨h, h', _⟩ | ⟨h, h', _⟩; exact Or.inl ⟨h, h'⟩; exact Or.inr ⟨h, h'⟩)
    clear hB
    go_upto_if 34 with fail
    go_cut [9] (fun x wx => x = .int .i64 c ∧ wx = wc)
    case first =>
      rcases HBB.out with ⟨rfl, rfl⟩ | ⟨rfl, rfl⟩ <;>
      · go_wp2
        go_meet
        case rel => exact ⟨rfl, rfl⟩
    case rest =>
      obtain ⟨rfl, rfl⟩ := hcut
      clear HBB
      go_wp2_with fail
      refine (h1 _).mono ?_; rintro r w3 ⟨rfl, rfl⟩
      go_wp2_with fail
      refine (h2 _ b2).mono ?_; rintro r w3 ⟨qg, mg, cg, rfl, hgl, g3⟩
      have b3 := b2.trans g3
      go_wp2_with fail
      refine (hwk _).mono ?_; rintro r w4 ⟨rfl, g4⟩
      have b4 := b3.trans g4
      have hgl4 := hgl.bel g4
      clear hgl g3 g4 b2 b3
      obtain ⟨em1, em2⟩ := gl_len hlen hgl4
      have he := HEE.out
      rw [← he] at em1 em2
      clear HEE
      rcases Classical.em (e = 0) with rfl | hne
      · have em := em1 rfl
        have ub := hub rfl
        have t1 := bne_false em
        have hmg : mg ≤ n := by omega
        have HE := Lib.hid em
        have HG := Lib.hid hgl4
        have HZ := Lib.hid he.symm
        clear em em1 em2 hub he hgl4 h1 h2 h024
        go_wp2
        go_loopw [13, 77] (fun _ a wr => ∃ i : Nat, i ≤ mg ∧ a = .int .i64 (i : Int) ∧ Bel w4 wr) (fun _ a _ => mg - (intOf a).toNat)
        case atStart => exact ⟨0, by omega, by simp, Bel.refl _⟩
        case round =>
          obtain ⟨i, hi, rfl, b5⟩ := hrel
          have B5 := b4.trans b5
          by_cases hlt : i < mg
          · have hic := HE.out
            obtain ⟨k, z, ek, hk, hz, hgz, hmul⟩ := gat_at (zs := zs) (by rw [hlen]; exact HZ.out) (show (i : Int) < _ by rw [← hic]; omega)
            rw [hlen] at hk
            obtain ⟨A, oa, z', rfl, hAl, hz', hAc⟩ := HA.out.at hk
            obtain rfl : z = z' := by rw [hz] at hz'; exact Option.some.inj hz'
            obtain ⟨Gg, gg, x, rfl, hGl, hx, hGc⟩ := HG.out.il.at hlt
            obtain rfl : z = x := by rw [hgz] at hx; exact Option.some.inj hx
            have sA := Nat.lt_of_lt_of_le hAl B5.size
            have sG := Nat.lt_of_lt_of_le hGl b5.size
            have kA := (B5.cell (p := ⟨A, oa + k, none⟩) hAl).trans hAc
            have kG := (b5.cell (p := ⟨Gg, gg + i, none⟩) hGl).trans hGc
            have hs0 : 0 ≤ (i : Int) * s := Int.mul_nonneg (by omega) (by have := strE_zero HZ.out; omega)
            have hw : IntKind.i64.wrap ((i : Int) * s) = (i : Int) * s := by rw [IntKind.wrap_i64]; omega
            have ekw : IntKind.i64.wrap (o + (i : Int) * s) = (k : Int) := by rw [ek, IntKind.wrap_i64]; omega
            clear hic hz hgz hx hz' hAc hGc HA HB HE HG HZ hmul hs0 ek b4
            go_upto_region 11 with fail
            refine gat7_reg _ A Gg oa gg n ca mg cg i k o s z z ⟨_, rfl, rfl, rfl, rfl⟩ ⟨_, rfl, rfl, rfl, rfl⟩ ⟨_, rfl, rfl, rfl, rfl⟩ ⟨_, rfl, rfl, rfl, rfl⟩ ⟨_, rfl, rfl, rfl, rfl⟩ ⟨_, rfl, rfl, rfl, rfl⟩ ⟨_, rfl, rfl, rfl, rfl⟩ ⟨_, rfl, rfl, rfl, rfl⟩ ⟨_, rfl, rfl, rfl, rfl⟩ ⟨_, rfl, rfl, rfl, rfl⟩ ⟨_, rfl, rfl, rfl, rfl⟩ ⟨_, rfl, rfl, rfl, rfl⟩ ⟨_, rfl, rfl, rfl, rfl⟩ rfl (by decide +kernel) rfl rfl rfl rfl rfl rfl hlt hk hw ekw (fun w' h => (h.cell sG).trans kG) (fun w' h => (h.cell sA).trans kA) ?_
            intro f w6 g6 hf
            have b6 := b5.trans g6
            have hf : f 92 = .bool false := by rw [hf]; simp
            clear g6 b5 B5 kA kG sA sG hw ekw
            unfold actOf
            simp only [List.mapIdx_toArray, List.mapIdx_cons, List.mapIdx_nil, List.mem_cons, List.mem_nil_iff, Nat.reduceEqDiff, Nat.reduceAdd, or_false, or_true, if_true, if_false, hf]
            go_wp2
            go_roundw
            case rel => exact ⟨i + 1, by omega, (by first | rfl | simp), b6⟩
            case measure => first | (simp [intOf]; done) | (simp [intOf]; omega)
          · clear HE HG HZ b4 b5
            go_wp2_with (at_builtin; refine wpList_copy _ rfl _ rfl p n ca zs rfl (HA.out.bel B5) (by omega) ?_)
            intro qo co w6 hgo g6
            have b6 := B5.trans g6
            have s5 := B5.size
            clear g6
            go_wp2_with fail
            refine (h3 _).mono ?_; rintro r w7 ⟨rfl, rfl⟩
            rcases hgo.form with h0 | ⟨G, og, rfl, hGb, hW⟩
            · have hq0 := fun co' => hS0 qo co' q m cb fs o s _ (HB.out.bel b6) (by omega) ⟨o1, o2⟩ ⟨s1, s2⟩
              have e0 : strE (n : Int) o s m = strE 0 o s m := by rw [h0]; rfl
              rw [e0]
              rw [h0]
              clear hgo HA HB h3 hS hwk hS0 e0
              go_wp2_with fail
              refine (hq0 _).mono ?_; rintro r w8 ⟨rfl, g8⟩
              have b8 := b6.trans g8
              clear hq0 g8 b6 B5
              generalize strE 0 o s m = gg
              go_wp2
              go_loopw [17, 18, 113] (fun _ _ a wr => a = .int .i64 0 ∧ wr = w8) (fun _ _ _ _ => 0)
              case atStart => exact ⟨rfl, rfl⟩
              case round =>
                obtain ⟨rfl, rfl⟩ := hrel
                go_wp2
                go_ret
                exact ⟨rfl, b8⟩
            · have hap : m = 0 ∨ ∀ B b, q = some ⟨B, b, none⟩ → B ≠ G := by
                rcases HB.out.form with h | ⟨B', b', e1, e2, _⟩
                · exact Or.inl h
                · refine Or.inr fun B b e => ?_
                  rw [e1] at e
                  injection e with e
                  injection e with e
                  omega
              have hsc := hS G og n co zs q m cb fs o s _ hW (HB.out.bel b6) hap (by omega) (by omega) ⟨o1, o2⟩ ⟨s1, s2⟩
              clear hgo hS hS0 hwk h3 hap hW
              go_wp2_with fail
              refine hsc.mono ?_; rintro r w8 ⟨rfl, t8, hW8⟩
              have b8 := b6.then t8 (by omega)
              clear hsc t8 b6 B5
              obtain ⟨gg, hgg⟩ : ∃ gg, gg = strE n o s m := ⟨_, rfl⟩
              have HGG := Lib.hid hgg
              rw [← hgg]
              clear hgg
              go_wp2
              go_loopw [17, 18, 113] (fun _ _ a wr => ∃ j : Nat, j ≤ n ∧ a = .int .i64 (j : Int) ∧ Bel w8 wr) (fun _ _ a _ => n - (intOf a).toNat)
              case atStart => exact ⟨0, by omega, by simp, Bel.refl _⟩
              case round =>
                obtain ⟨j, hj, rfl, B9⟩ := hrel
                by_cases hjn : j < n
                · obtain ⟨A, oa, z, rfl, hAl, hz, hAc⟩ := HA.out.at hjn
                  have kA := ((b8.trans B9).cell (p := ⟨A, oa + j, none⟩) hAl).trans hAc
                  have kG := (B9.cell (p := ⟨G, og + j, none⟩) hW8.lt).trans (hW8.c j _ (sca_at (by omega)))
                  obtain ⟨v, hv⟩ : ∃ v, v = scaV zs fs o s j := ⟨_, rfl⟩
                  rw [← hv] at kG
                  have hzd : zs.getD j 0 = z := by rw [List.getD_eq_getElem?_getD, hz]; rfl
                  unfold scaV at hv
                  rw [hlen, hlenB, ← HGG.out, hzd] at hv
                  clear hAc hz hzd HA HC
                  by_cases c1 : gg = 0
                  · subst c1
                    have hze := strE_zero HGG.out.symm
                    have z1 := hze.1
                    have z3 := hze.2.2.1
                    have t4 : (s == 0) = false := by rw [beq_eq_false_iff_ne]; omega
                    by_cases c2 : o ≤ (j : Int)
                    · have w1 : IntKind.i64.wrap ((j : Int) - o) = (j : Int) - o := by rw [IntKind.wrap_i64]; omega
                      have y0 : 0 ≤ ((j : Int) - o) / s := Int.ediv_nonneg (by omega) (by omega)
                      have y1 : ((j : Int) - o) / s ≤ (j : Int) - o := Int.ediv_le_self _ (by omega)
                      obtain ⟨k, hk⟩ : ∃ k : Nat, ((j : Int) - o) / s = (k : Int) := ⟨(((j : Int) - o) / s).toNat, by omega⟩
                      by_cases c3 : ((j : Int) - o) % s = 0
                      · have t3 : (((j : Int) - o) % s == 0) = true := by rw [beq_iff_eq]; exact c3
                        by_cases c4 : k < m
                        · obtain ⟨B, ob, x, rfl, hBl, hx, hBc⟩ := HB.out.at c4
                          have kB := ((b8.trans B9).cell (p := ⟨B, ob + k, none⟩) hBl).trans hBc
                          have hxd : fs.getD k 0 = x := by rw [List.getD_eq_getElem?_getD, hx]; rfl
                          rw [if_pos ⟨rfl, c2, c3, by omega⟩, hk, Int.toNat_natCast, hxd] at hv
                          subst hv
                          clear hBc hx hxd HB hze HGG c3
                          go_wp2
                          go_roundw
                          case rel => exact ⟨j + 1, by omega, (by first | rfl | simp), B9⟩
                          case measure => first | (simp [intOf]; done) | (simp [intOf]; omega)
                        · rw [if_neg (fun h => by have := h.2.2.2; omega)] at hv
                          subst hv
                          clear HB hze HGG c3
                          go_wp2
                          go_roundw
                          case rel => exact ⟨j + 1, by omega, (by first | rfl | simp), B9⟩
                          case measure => first | (simp [intOf]; done) | (simp [intOf]; omega)
                      · have t3 : (((j : Int) - o) % s == 0) = false := by rw [beq_eq_false_iff_ne]; exact c3
                        rw [if_neg (fun h => c3 h.2.2.1)] at hv
                        subst hv
                        clear HB hze HGG c3 hk
                        go_wp2
                        go_roundw
                        case rel => exact ⟨j + 1, by omega, (by first | rfl | simp), B9⟩
                        case measure => first | (simp [intOf]; done) | (simp [intOf]; omega)
                    · rw [if_neg (fun h => c2 h.2.1)] at hv
                      subst hv
                      clear HB hze HGG
                      go_wp2
                      go_roundw
                      case rel => exact ⟨j + 1, by omega, (by first | rfl | simp), B9⟩
                      case measure => first | (simp [intOf]; done) | (simp [intOf]; omega)
                  · have t1 : (gg == 0) = false := by rw [beq_eq_false_iff_ne]; exact c1
                    rw [if_neg (fun h => c1 h.1)] at hv
                    subst hv
                    clear HB HGG c1
                    go_wp2
                    go_roundw
                    case rel => exact ⟨j + 1, by omega, (by first | rfl | simp), B9⟩
                    case measure => first | (simp [intOf]; done) | (simp [intOf]; omega)
                · have hjn2 : j = n := by omega
                  have b9 := b8.trans B9
                  clear HA HB HGG HC b8 B9 hW8
                  go_wp2
                  go_ret
                  exact ⟨rfl, b9⟩
      · have em := em2 hne
        have t0 : (e == 0) = false := by rw [beq_eq_false_iff_ne]; exact hne
        have t2 : (e != 0) = true := by rw [bne_iff_ne]; exact hne
        clear em1 em2 hub h024 hne
        subst em
        clear h1 h2 he hgl4
        go_wp2
        go_loopw [13, 77] (fun _ a wr => a = .int .i64 0 ∧ wr = w4) (fun _ _ _ => 0)
        case atStart => exact ⟨rfl, rfl⟩
        case round =>
          obtain ⟨rfl, rfl⟩ := hrel
          have B5 := b4
          clear b4
          go_wp2_with (at_builtin; refine wpList_copy _ rfl _ rfl p n ca zs rfl (HA.out.bel B5) (by omega) ?_)
          intro qo co w6 hgo g6
          have b6 := B5.trans g6
          have s5 := B5.size
          clear g6
          go_wp2_with fail
          refine (h3 _).mono ?_; rintro r w7 ⟨rfl, rfl⟩
          rcases hgo.form with h0 | ⟨G, og, rfl, hGb, hW⟩
          · have hq0 := fun co' => hS0 qo co' q m cb fs o s _ (HB.out.bel b6) (by omega) ⟨o1, o2⟩ ⟨s1, s2⟩
            have e0 : strE (n : Int) o s m = strE 0 o s m := by rw [h0]; rfl
            rw [e0]
            rw [h0]
            clear hgo HA HB h3 hS hwk hS0 e0
            go_wp2_with fail
            refine (hq0 _).mono ?_; rintro r w8 ⟨rfl, g8⟩
            have b8 := b6.trans g8
            clear hq0 g8 b6 B5
            generalize strE 0 o s m = gg
            go_wp2
            go_loopw [17, 18, 113] (fun _ _ a wr => a = .int .i64 0 ∧ wr = w8) (fun _ _ _ _ => 0)
            case atStart => exact ⟨rfl, rfl⟩
            case round =>
              obtain ⟨rfl, rfl⟩ := hrel
              go_wp2
              go_ret
              exact ⟨rfl, b8⟩
          · have hap : m = 0 ∨ ∀ B b, q = some ⟨B, b, none⟩ → B ≠ G := by
              rcases HB.out.form with h | ⟨B', b', e1, e2, _⟩
              · exact Or.inl h
              · refine Or.inr fun B b e => ?_
                rw [e1] at e
                injection e with e
                injection e with e
                omega
            have hsc := hS G og n co zs q m cb fs o s _ hW (HB.out.bel b6) hap (by omega) (by omega) ⟨o1, o2⟩ ⟨s1, s2⟩
            clear hgo hS hS0 hwk h3 hap hW
            go_wp2_with fail
            refine hsc.mono ?_; rintro r w8 ⟨rfl, t8, hW8⟩
            have b8 := b6.then t8 (by omega)
            clear hsc t8 b6 B5
            obtain ⟨gg, hgg⟩ : ∃ gg, gg = strE n o s m := ⟨_, rfl⟩
            have HGG := Lib.hid hgg
            rw [← hgg]
            clear hgg
            go_wp2
            go_loopw [17, 18, 113] (fun _ _ a wr => ∃ j : Nat, j ≤ n ∧ a = .int .i64 (j : Int) ∧ Bel w8 wr) (fun _ _ a _ => n - (intOf a).toNat)
            case atStart => exact ⟨0, by omega, by simp, Bel.refl _⟩
            case round =>
              obtain ⟨j, hj, rfl, B9⟩ := hrel
              by_cases hjn : j < n
              · obtain ⟨A, oa, z, rfl, hAl, hz, hAc⟩ := HA.out.at hjn
                have kA := ((b8.trans B9).cell (p := ⟨A, oa + j, none⟩) hAl).trans hAc
                have kG := (B9.cell (p := ⟨G, og + j, none⟩) hW8.lt).trans (hW8.c j _ (sca_at (by omega)))
                obtain ⟨v, hv⟩ : ∃ v, v = scaV zs fs o s j := ⟨_, rfl⟩
                rw [← hv] at kG
                have hzd : zs.getD j 0 = z := by rw [List.getD_eq_getElem?_getD, hz]; rfl
                unfold scaV at hv
                rw [hlen, hlenB, ← HGG.out, hzd] at hv
                clear hAc hz hzd HA HC
                by_cases c1 : gg = 0
                · subst c1
                  have hze := strE_zero HGG.out.symm
                  have z1 := hze.1
                  have z3 := hze.2.2.1
                  have t4 : (s == 0) = false := by rw [beq_eq_false_iff_ne]; omega
                  by_cases c2 : o ≤ (j : Int)
                  · have w1 : IntKind.i64.wrap ((j : Int) - o) = (j : Int) - o := by rw [IntKind.wrap_i64]; omega
                    have y0 : 0 ≤ ((j : Int) - o) / s := Int.ediv_nonneg (by omega) (by omega)
                    have y1 : ((j : Int) - o) / s ≤ (j : Int) - o := Int.ediv_le_self _ (by omega)
                    obtain ⟨k, hk⟩ : ∃ k : Nat, ((j : Int) - o) / s = (k : Int) := ⟨(((j : Int) - o) / s).toNat, by omega⟩
                    by_cases c3 : ((j : Int) - o) % s = 0
                    · have t3 : (((j : Int) - o) % s == 0) = true := by rw [beq_iff_eq]; exact c3
                      by_cases c4 : k < m
                      · obtain ⟨B, ob, x, rfl, hBl, hx, hBc⟩ := HB.out.at c4
                        have kB := ((b8.trans B9).cell (p := ⟨B, ob + k, none⟩) hBl).trans hBc
                        have hxd : fs.getD k 0 = x := by rw [List.getD_eq_getElem?_getD, hx]; rfl
                        rw [if_pos ⟨rfl, c2, c3, by omega⟩, hk, Int.toNat_natCast, hxd] at hv
                        subst hv
                        clear hBc hx hxd HB hze HGG c3
                        go_wp2
                        go_roundw
                        case rel => exact ⟨j + 1, by omega, (by first | rfl | simp), B9⟩
                        case measure => first | (simp [intOf]; done) | (simp [intOf]; omega)
                      · rw [if_neg (fun h => by have := h.2.2.2; omega)] at hv
                        subst hv
                        clear HB hze HGG c3
                        go_wp2
                        go_roundw
                        case rel => exact ⟨j + 1, by omega, (by first | rfl | simp), B9⟩
                        case measure => first | (simp [intOf]; done) | (simp [intOf]; omega)
                    · have t3 : (((j : Int) - o) % s == 0) = false := by rw [beq_eq_false_iff_ne]; exact c3
                      rw [if_neg (fun h => c3 h.2.2.1)] at hv
                      subst hv
                      clear HB hze HGG c3 hk
                      go_wp2
                      go_roundw
                      case rel => exact ⟨j + 1, by omega, (by first | rfl | simp), B9⟩
                      case measure => first | (simp [intOf]; done) | (simp [intOf]; omega)
                  · rw [if_neg (fun h => c2 h.2.1)] at hv
                    subst hv
                    clear HB hze HGG
                    go_wp2
                    go_roundw
                    case rel => exact ⟨j + 1, by omega, (by first | rfl | simp), B9⟩
                    case measure => first | (simp [intOf]; done) | (simp [intOf]; omega)
                · have t1 : (gg == 0) = false := by rw [beq_eq_false_iff_ne]; exact c1
                  rw [if_neg (fun h => c1 h.1)] at hv
                  subst hv
                  clear HB HGG c1
                  go_wp2
                  go_roundw
                  case rel => exact ⟨j + 1, by omega, (by first | rfl | simp), B9⟩
                  case measure => first | (simp [intOf]; done) | (simp [intOf]; omega)
              · have hjn2 : j = n := by omega
                have b9 := b8.trans B9
                clear HA HB HGG HC b8 B9 hW8
                go_wp2
                go_ret
                exact ⟨rfl, b9⟩
end Go.Proofs.Ytniljnidpcgjgaa

/- IndexReverse's whole walk. -/
namespace Go.Proofs.Ytniljnidpcgjgaa
open Go.RowKit

set_option maxHeartbeats 2000000 in
theorem reverse7 (hwk : WakesSaid7) (hR : RevSaid7) (p : Option Addr) (n cap : Nat) (rs : List Int) (w : World) (hA : IL w p n rs) (hn : n * 8 ≤ 140737488351232) :
    Calls Try.prog 4 #[.slice p n cap] w fun r w' => r = .returned (.bool true) ∧ Bel w w' := by
  have hP := prod_run p n cap rs w hA (by omega)
  have hp := prodI_le rs
  have hlen : (revI rs).length ≤ 1048576 := by
    by_cases h0 : prodI rs = 0
    · unfold revI; rw [if_pos h0]; simp
    · rw [revI_len h0]; omega
  have h1 := fun w' (g : Bel w w') => hR p n cap rs w' (hA.bel g) hn
  have h2 := fun w' (g : Bel w w') => refrev_run p n cap rs w' (hA.bel g) (by omega)
  obtain ⟨de, hde⟩ : ∃ de, de = revE rs := ⟨_, rfl⟩
  obtain ⟨dl, hdl⟩ : ∃ dl, dl = revI rs := ⟨_, rfl⟩
  rw [← hde, ← hdl] at h1 h2
  rw [← hdl] at hlen
  obtain ⟨P, hPP⟩ : ∃ P, P = prodI rs := ⟨_, rfl⟩
  rw [← hPP] at hP hp
  clear hde hdl hA hR hPP
  by_cases hbig : 2000 < P
  · clear h1 h2 hlen
    go_enter Try.func4, Try.ntmps4
    go_wp2_with fail
    refine hP.mono ?_; rintro r w1 ⟨rfl, rfl⟩
    go_wp2_with fail
    refine (hwk _).mono ?_; rintro r w5 ⟨rfl, g5⟩
    go_wp2
    go_ret
    exact ⟨rfl, g5⟩
  · go_enter Try.func4, Try.ntmps4
    go_wp2_with fail
    refine hP.mono ?_; rintro r w1 ⟨rfl, rfl⟩
    go_wp2_with fail
    refine (h1 _ (Bel.refl _)).mono ?_; rintro r w1 ⟨q1, m1, c1, rfl, l1, g1⟩
    go_wp2_with fail
    refine (h2 _ g1).mono ?_; rintro r w2 ⟨q2, m2, c2, rfl, l2, g2⟩
    go_wp2_with fail
    refine (hwk _).mono ?_; rintro r w5 ⟨rfl, g5⟩
    have em : m2 = m1 := by rw [← l1.len, ← l2.len]
    subst em
    have hm2 : m2 ≤ 1048576 := l1.short hlen
    have L1 := (l1.bel g2).bel g5
    have L2 := l2.bel g5
    have G5 := (g1.trans g2).trans g5
    clear h1 h2 l1 l2 g1 g2 g5 hlen hP
    go_wp2_with fail
    refine (same_ints _ _ _ _ _ _ _ L1 L2 (by omega)).mono ?_; rintro r w6 ⟨rfl, g6⟩
    have G6 := G5.trans g6
    clear L1 L2 G5 g6
    go_wp2
    go_ret
    exact ⟨ret_bool (by simp), G6⟩
end Go.Proofs.Ytniljnidpcgjgaa

/- Digits the other way round, twice: by value. -/
namespace Go.Proofs.Ytniljnidpcgjgaa
open Go.RowKit
set_option linter.unusedVariables false

def prd : List Int → Int
  | [] => 1
  | r :: rs => r * prd rs
def AllR (rs : List Int) : Prop := ∀ r ∈ rs, 2 ≤ r ∧ r ≤ 1048576
theorem prd_pos : ∀ {rs : List Int}, AllR rs → 1 ≤ prd rs
  | [], _ => by decide
  | r :: rs, h => by
    have h1 := h r (List.mem_cons_self ..)
    have h2 := prd_pos (rs := rs) fun x hx => h x (List.mem_cons_of_mem _ hx)
    show 1 ≤ r * prd rs
    have := Int.mul_le_mul (show (1 : Int) ≤ r by omega) h2 (by omega) (by omega)
    omega
theorem prodFrom_eq : ∀ (rs : List Int) (n : Int), 1 ≤ n → prodFrom n rs ≠ 0 → prodFrom n rs = n * prd rs
  | [], n, _, _ => by show n = n * 1; omega
  | r :: rs, n, hn, h => by
    unfold prodFrom at h ⊢
    split at h
    · exact absurd rfl h
    · rename_i c1
      rw [if_neg c1]
      split at h
      · exact absurd rfl h
      · rename_i c2
        rw [if_neg c2]
        have h1 : 1 * 1 ≤ n * r := Int.mul_le_mul hn (by omega) (by omega) (by omega)
        rw [prodFrom_eq rs (n * r) (by omega) h]
        show n * r * prd rs = n * (r * prd rs)
        rw [Int.mul_assoc]
theorem prodFrom_ok : ∀ (rs : List Int) (n : Int), 1 ≤ n → AllR rs → n * prd rs ≤ 1048576 → prodFrom n rs = n * prd rs
  | [], n, _, _, _ => by show n = n * 1; omega
  | r :: rs, n, hn, h, hle => by
    have h1 := h r (List.mem_cons_self ..)
    have hrs : AllR rs := fun x hx => h x (List.mem_cons_of_mem _ hx)
    have h2 := prd_pos hrs
    have e : n * prd (r :: rs) = n * r * prd rs := by show n * (r * prd rs) = _; rw [Int.mul_assoc]
    rw [e] at hle ⊢
    have h3 : 1 * 1 ≤ n * r := Int.mul_le_mul hn (by omega) (by omega) (by omega)
    have h4 : n * r * 1 ≤ n * r * prd rs := Int.mul_le_mul_of_nonneg_left h2 (by omega)
    unfold prodFrom
    rw [if_neg (by omega), if_neg (by omega)]
    exact prodFrom_ok rs (n * r) (by omega) hrs hle
theorem prd_append : ∀ (a b : List Int), prd (a ++ b) = prd a * prd b
  | [], b => by show prd b = 1 * prd b; omega
  | r :: a, b => by show r * prd (a ++ b) = r * prd a * prd b; rw [prd_append a b, Int.mul_assoc]
theorem prd_reverse : ∀ (a : List Int), prd a.reverse = prd a
  | [] => rfl
  | r :: a => by
    rw [List.reverse_cons, prd_append, prd_reverse a]
    show prd a * (r * 1) = r * prd a
    rw [Int.mul_one, Int.mul_comm]
theorem prodI_val {rs : List Int} (h : prodI rs ≠ 0) : prodI rs = prd rs ∧ AllR rs ∧ rs.length ≤ 30 ∧ prd rs ≤ 1048576 := by
  obtain ⟨h1, h2⟩ := prodI_mem h
  have h3 := (prodI_le rs).2
  have e : prodI rs = prd rs := by
    have h' := h
    unfold prodI at h' ⊢
    rw [if_neg (by omega)] at h' ⊢
    rw [prodFrom_eq rs 1 (by omega) h', Int.one_mul]
  exact ⟨e, h2, h1, by omega⟩
theorem prodI_reverse {rs : List Int} (h : prodI rs ≠ 0) : prodI rs.reverse = prodI rs := by
  obtain ⟨h1, h2, h3, h4⟩ := prodI_val h
  rw [h1]
  unfold prodI
  rw [if_neg (by rw [List.length_reverse]; omega), prodFrom_ok rs.reverse 1 (by omega) (fun r hr => h2 r (List.mem_reverse.1 hr)) (by rw [Int.one_mul, prd_reverse]; exact h4), Int.one_mul, prd_reverse]
/-- the number that digits make -/
def vl : List Int → List Int → Int
  | d :: ds, r :: rs => d + r * vl ds rs
  | _, _ => 0
def Vd : List Int → List Int → Prop
  | d :: ds, r :: rs => 0 ≤ d ∧ d < r ∧ Vd ds rs
  | [], [] => True
  | _, _ => False
theorem vl_bound : ∀ {ds rs : List Int}, Vd ds rs → 0 ≤ vl ds rs ∧ vl ds rs < prd rs
  | [], [], _ => by show (0 : Int) ≤ 0 ∧ (0 : Int) < 1; omega
  | d :: ds, r :: rs, ⟨h1, h2, h3⟩ => by
    obtain ⟨k1, k2⟩ := vl_bound h3
    show 0 ≤ d + r * vl ds rs ∧ d + r * vl ds rs < r * prd rs
    have a := Int.mul_nonneg (show 0 ≤ r by omega) k1
    have b : r * (vl ds rs + 1) ≤ r * prd rs := Int.mul_le_mul_of_nonneg_left (by omega) (by omega)
    rw [Int.mul_add, Int.mul_one] at b
    omega
theorem numFrom_vl : ∀ (ds rs : List Int) (k wt : Int), Vd ds rs → numFrom k wt ds rs = (k + wt * vl ds rs, 0)
  | [], [], k, wt, _ => by show (k, (0 : Int)) = (k + wt * 0, 0); rw [Int.mul_zero, Int.add_zero]
  | d :: ds, r :: rs, k, wt, ⟨h1, h2, h3⟩ => by
    unfold numFrom
    rw [if_neg (by omega), numFrom_vl ds rs _ _ h3]
    show (k + wt * d + wt * r * vl ds rs, (0 : Int)) = (k + wt * (d + r * vl ds rs), 0)
    rw [Int.mul_add, Int.mul_assoc, Int.add_assoc]
theorem digs_vl : ∀ (ds rs : List Int), Vd ds rs → digs (vl ds rs) rs = ds
  | [], [], _ => rfl
  | d :: ds, r :: rs, ⟨h1, h2, h3⟩ => by
    have e : vl (d :: ds) (r :: rs) = d + r * vl ds rs := rfl
    show (vl (d :: ds) (r :: rs)) % r :: digs ((vl (d :: ds) (r :: rs)) / r) rs = d :: ds
    rw [e, Int.add_mul_emod_self_left, Int.emod_eq_of_lt h1 h2, Int.add_mul_ediv_left _ _ (by omega), Int.ediv_eq_zero_of_lt h1 h2, Int.zero_add, digs_vl ds rs h3]
theorem vl_digs : ∀ (rs : List Int) (k : Int), AllR rs → 0 ≤ k → k < prd rs → Vd (digs k rs) rs ∧ vl (digs k rs) rs = k
  | [], k, _, h0, h1 => by
    have h1 : k < 1 := h1
    exact ⟨trivial, by show (0 : Int) = k; omega⟩
  | r :: rs, k, h, h0, h1 => by
    have hr := h r (List.mem_cons_self ..)
    have h1 : k < r * prd rs := h1
    obtain ⟨a, b⟩ := vl_digs rs (k / r) (fun x hx => h x (List.mem_cons_of_mem _ hx)) (Int.ediv_nonneg h0 (by omega)) (Int.ediv_lt_of_lt_mul (by omega) (by rw [Int.mul_comm]; exact h1))
    refine ⟨⟨Int.emod_nonneg _ (by omega), Int.emod_lt_of_pos _ (by omega), a⟩, ?_⟩
    show k % r + r * vl (digs (k / r) rs) rs = k
    rw [b]
    exact Int.emod_add_mul_ediv k r
theorem Vd_append : ∀ {a b c d : List Int}, Vd a b → Vd c d → Vd (a ++ c) (b ++ d)
  | [], [], _, _, _, h => h
  | _ :: _, _ :: _, _, _, ⟨h1, h2, h3⟩, h => ⟨h1, h2, Vd_append h3 h⟩
theorem Vd_reverse : ∀ {a b : List Int}, Vd a b → Vd a.reverse b.reverse
  | [], [], _ => trivial
  | _ :: _, _ :: _, ⟨h1, h2, h3⟩ => by
    rw [List.reverse_cons, List.reverse_cons]
    exact Vd_append (Vd_reverse h3) ⟨h1, h2, trivial⟩
theorem rev_val {rs : List Int} {k : Nat} (h : prodI rs ≠ 0) (hk : (k : Int) < prodI rs) : revV rs k = vl (digs (k : Int) rs).reverse rs.reverse ∧ Vd (digs (k : Int) rs).reverse rs.reverse := by
  obtain ⟨h1, h2, h3, h4⟩ := prodI_val h
  obtain ⟨a, b⟩ := vl_digs rs k h2 (by omega) (by omega)
  have hv := Vd_reverse a
  refine ⟨?_, hv⟩
  unfold revV numR
  rw [if_neg (by rw [prodI_reverse h]; exact h), if_neg (by simp [digs_len]), numFrom_vl _ _ _ _ hv]
  show (0 : Int) + 1 * _ = _
  rw [Int.zero_add, Int.one_mul]
/-- turned about twice -/
theorem rev_back {rs : List Int} {k : Nat} (h : prodI rs ≠ 0) (hk : (k : Int) < prodI rs) : ∃ m : Nat, revV rs k = (m : Int) ∧ (m : Int) < prodI rs ∧ revV rs.reverse m = (k : Int) := by
  obtain ⟨e, hv⟩ := rev_val h hk
  obtain ⟨b1, b2⟩ := vl_bound hv
  obtain ⟨h1, h2, h3, h4⟩ := prodI_val h
  rw [prd_reverse] at b2
  obtain ⟨m, hm⟩ : ∃ m : Nat, vl (digs (k : Int) rs).reverse rs.reverse = (m : Int) := ⟨(vl (digs (k : Int) rs).reverse rs.reverse).toNat, by omega⟩
  refine ⟨m, e.trans hm, by omega, ?_⟩
  have hr : prodI rs.reverse ≠ 0 := by rw [prodI_reverse h]; exact h
  obtain ⟨e2, _⟩ := rev_val (rs := rs.reverse) (k := m) hr (by rw [prodI_reverse h]; omega)
  rw [e2, ← hm, digs_vl _ _ hv, List.reverse_reverse, List.reverse_reverse]
  exact (vl_digs rs k h2 (by omega) (by omega)).2
/-- transposed twice -/
theorem trn_back {zs : List Int} {R C : Nat} (hR : 1 ≤ R) (hC : 1 ≤ C) (h : R * C = zs.length) : trE zs.length (R : Int) (C : Int) = 0 ∧ trE zs.length (C : Int) (R : Int) = 0 ∧ trL (trL zs (R : Int) (C : Int)) (C : Int) (R : Int) = zs := by
  have e1 : trE zs.length (R : Int) (C : Int) = 0 := by unfold trE; rw [if_neg (by omega), if_pos (by rw [← h, Int.natCast_mul])]
  have e2 : trE zs.length (C : Int) (R : Int) = 0 := by unfold trE; rw [if_neg (by omega), if_pos (by rw [← h, Int.natCast_mul, Int.mul_comm])]
  refine ⟨e1, e2, ?_⟩
  have l1 : (trL zs (R : Int) (C : Int)).length = zs.length := by unfold trL; rw [if_pos e1, List.length_map, List.length_range]
  refine List.ext_getElem? fun i => ?_
  unfold trL
  rw [if_pos e1]
  have l2 : ((List.range zs.length).map (trV zs ((R : Int)).toNat ((C : Int)).toNat)).length = zs.length := by rw [List.length_map, List.length_range]
  rw [l2, if_pos e2, Int.toNat_natCast, Int.toNat_natCast]
  by_cases hi : i < zs.length
  · rw [List.getElem?_map, List.getElem?_range hi]
    have hm : i % C < C := Nat.mod_lt _ (by omega)
    have hd : i / C < R := tr_div (by omega) (by rw [Nat.mul_comm, h]; exact hi)
    obtain ⟨d1, d2, d3, d4⟩ := tr_at (R := R) (C := C) (rr := i / C) (cc := i % C) hd hm
    rw [h] at d3
    show some (trV ((List.range zs.length).map (trV zs R C)) C R i) = zs[i]?
    unfold trV
    rw [List.getD_eq_getElem?_getD, List.getElem?_map, List.getElem?_range d3]
    show some (zs.getD _ 0) = _
    rw [d1, d2, Nat.mul_comm, Nat.div_add_mod, List.getD_eq_getElem?_getD, List.getElem?_eq_getElem hi]; rfl
  · rw [List.getElem?_eq_none (by simp; omega), List.getElem?_eq_none (by omega)]
end Go.Proofs.Ytniljnidpcgjgaa

/- IndexTransposes' whole walk, of lists up to 2^20. -/
namespace Go.Proofs.Ytniljnidpcgjgaa
open Go.RowKit
set_option linter.unusedVariables false

/-- what the landed Transpose is to answer -/
def TrnSaid7 : Prop := ∀ (G off n cap : Nat) (zs : List Int) (r c : Int) (w : World), WL w G off n zs → n ≤ 1048576 → I64 r → I64 c →
  Calls Try.prog 20 #[.slice (some ⟨G, off, none⟩) n cap, .int .i64 r, .int .i64 c] w fun e w' => e = .returned (.int .i64 (trE n r c)) ∧ Touch G w w' ∧ WL w' G off n (trL zs r c)
def TrnNil7 : Prop := ∀ (q : Option Addr) (cap : Nat) (r c : Int) (w : World), I64 r → I64 c →
  Calls Try.prog 20 #[.slice q 0 cap, .int .i64 r, .int .i64 c] w fun e w' => e = .returned (.int .i64 (trE 0 r c)) ∧ Bel w w'
theorem trL_len (zs : List Int) (r c : Int) : (trL zs r c).length = zs.length := by
  unfold trL
  split
  · rw [List.length_map, List.length_range]
  · rfl
set_option maxHeartbeats 2000000 in
theorem transposes7 (hwk : WakesSaid7) (hT : TrnSaid7) (hT0 : TrnNil7) (p : Option Addr) (n ca : Nat) (zs : List Int) (r c : Int) (w : World) (hA : IL w p n zs) (hn : n ≤ 1048576) (hr : I64 r) (hc : I64 c) :
    Calls Try.prog 5 #[.slice p n ca, .int .i64 r, .int .i64 c] w fun e w' => e = .returned (.bool true) ∧ Bel w w' := by
  have hlen := hA.len
  have h1 := fun w' (g : Bel w w') => reftrn_run p n ca zs r c w' (hA.bel g) hn hr.2 hc.2
  have HA := Lib.hid hA
  have HR := Lib.hid hr
  have HC := Lib.hid hc
  clear hA hr hc
  go_enter Try.func5, Try.ntmps5
  go_wp2_with (at_builtin; refine wpList_copy _ rfl _ rfl p n ca zs rfl HA.out (by omega) ?_)
  intro qo co w2 hgo g2
  go_wp2_with fail
  refine (h1 _ g2).mono ?_; rintro e w3 ⟨qw, mw, cw, rfl, hw, g3, hq⟩
  have hlt2 : ∀ G og, qo = some ⟨G, og, none⟩ → n = 0 ∨ (w.heap.size ≤ G ∧ G < w2.heap.size) := by
    intro G og e
    rcases hgo.form with h | ⟨G', og', e', h1, h2⟩
    · exact Or.inl h
    · rw [e'] at e
      injection e with e
      injection e with e
      exact Or.inr ⟨by omega, by have := h2.lt; omega⟩
  have g23 := g2.trans g3
  have hgo3 := hgo.bel g3
  have em : mw = n := by rw [← hw.len, trL_len]; exact hlen
  subst em
  clear h1 hgo g2 g3
  rcases hgo3.form with h0 | ⟨G, og, rfl, hGb, hW⟩
  · have hT' := fun cc w' => hT0 qo cc r c w' HR.out HC.out
    have hz : zs = [] := List.length_eq_zero_iff.1 (by omega)
    rw [hz] at hw
    have hl : trL [] r c = [] := List.length_eq_zero_iff.1 (by rw [trL_len]; rfl)
    rw [hl] at hw
    have e0 : trE ((mw : Nat) : Int) r c = trE 0 r c := by rw [h0]; rfl
    rw [e0]
    rw [h0] at hw ⊢
    generalize trE 0 r c = te at *
    clear hgo3 hT hT0 HA e0 hz hl hlen
    go_wp2_with fail
    refine (hT' _ _).mono ?_; rintro e w4 ⟨rfl, g4⟩
    go_wp2_with fail
    refine (hwk _).mono ?_; rintro e w5 ⟨rfl, g5⟩
    have B := (g23.trans g4).trans g5
    have hw5 := (hw.bel g4).bel g5
    clear hT' g4 g5 g23 hw
    go_wp2_with fail
    refine (same_ints _ _ 0 _ _ [] _ (IL.nil _ _) hw5 (by omega)).mono ?_; rintro e w6 ⟨rfl, g6⟩
    have B6 := B.trans g6
    clear B g6 hw5
    go_wp2
    go_ret
    exact ⟨ret_bool (by simp), B6⟩
  · have hT' := hT G og mw co zs r c _ hW hn HR.out HC.out
    generalize trE (mw : Int) r c = te at *
    have hwne : mw = 0 ∨ ∀ B b, qw = some ⟨B, b, none⟩ → B ≠ G := by
      rcases hlt2 G og rfl with h | ⟨h3, h4⟩
      · exact Or.inl h
      · rcases hq with rfl | ⟨B', b', e, h5⟩
        · rcases HA.out.form with h | ⟨B', b', e, h5, _⟩
          · exact Or.inl h
          · refine Or.inr fun B b e2 => ?_
            rw [e] at e2
            injection e2 with e2
            injection e2 with e2
            omega
        · refine Or.inr fun B b e2 => ?_
          rw [e] at e2
          injection e2 with e2
          injection e2 with e2
          omega
    have hGb' : w.heap.size ≤ G := hGb
    clear hgo3 hT hT0 HA hW
    go_wp2_with fail
    refine hT'.mono ?_; rintro e w4 ⟨rfl, t4, hW4⟩
    have hw4 : IL w4 qw mw (trL zs r c) := by
      rcases hwne with h | h
      · exact ⟨hw.len, Or.inl h⟩
      · exact hw.touch t4 h
    have B4 := g23.then t4 hGb'
    clear hw t4 g23 hwne hlt2 hq
    go_wp2_with fail
    refine (hwk _).mono ?_; rintro e w5 ⟨rfl, g5⟩
    have B5 := B4.trans g5
    have hw5 := hw4.bel g5
    have hW5 := hW4.bel g5
    clear g5 hw4 hW4 B4
    go_wp2_with fail
    refine (same_ints _ _ _ _ _ _ _ hW5.il hw5 (by omega)).mono ?_; rintro e w6 ⟨rfl, g6⟩
    have B6 := B5.trans g6
    clear B5 g6 hw5 hW5
    go_wp2
    go_ret
    exact ⟨ret_bool (by simp), B6⟩
end Go.Proofs.Ytniljnidpcgjgaa

/- IndexBack's whole walk. -/
namespace Go.Proofs.Ytniljnidpcgjgaa
open Go.RowKit
set_option linter.unusedVariables false

def sv7 (k : Nat) : List Int := (List.range k).map fun i : Nat => 7 * (i : Int)
theorem sv7_len (k : Nat) : (sv7 k).length = k := by unfold sv7; rw [List.length_map, List.length_range]
theorem sv7_next (k : Nat) : ((sv7 k).map (Value.int .i64)) ++ [Value.int .i64 (7 * (k : Int))] = (sv7 (k + 1)).map (Value.int .i64) := by
  unfold sv7
  rw [List.range_succ]
  simp
theorem sv7_at {n k : Nat} (h : k < n) : (sv7 n)[k]? = some (7 * (k : Int)) := by
  unfold sv7
  rw [List.getElem?_map, List.getElem?_range h]; rfl
set_option maxRecDepth 10000 in
set_option maxHeartbeats 8000000 in
theorem back7 (hwk : WakesSaid7) (hR : RevSaid7) (hT : TrnSaid7) (p : Option Addr) (n ca : Nat) (rs : List Int) (rows : Int) (w : World) (hA : IL w p n rs) (hn : n * 8 ≤ 140737488351232) (hrow : I64 rows) :
    Calls Try.prog 8 #[.slice p n ca, .int .i64 rows] w fun r w' => r = .returned (.bool true) ∧ Bel w w' := by
  have hP := prod_run p n ca rs w hA (by omega)
  have hp := prodI_le rs
  obtain ⟨P, hPP⟩ : ∃ P, P = prodI rs := ⟨_, rfl⟩
  by_cases hbad : P = 0 ∨ 2000 < P
  · rw [← hPP] at hP hp
    clear hA hR hT hPP
    by_cases h0 : P = 0
    · have t0 : (P == 0) = true := by rw [beq_iff_eq]; exact h0
      clear hbad
      go_enter Try.func8, Try.ntmps8
      go_wp2_with fail
      refine hP.mono ?_; rintro r w1 ⟨rfl, rfl⟩
      go_wp2_with fail
      refine (hwk _).mono ?_; rintro r w2 ⟨rfl, g2⟩
      go_wp2_with fail
      refine (hwk _).mono ?_; rintro r w3 ⟨rfl, g3⟩
      go_wp2
      go_ret
      exact ⟨rfl, g2.trans g3⟩
    · have t0 : (P == 0) = false := by rw [beq_eq_false_iff_ne]; exact h0
      have t1 : 2000 < P := by omega
      clear hbad h0
      go_enter Try.func8, Try.ntmps8
      go_wp2_with fail
      refine hP.mono ?_; rintro r w1 ⟨rfl, rfl⟩
      go_wp2_with fail
      refine (hwk _).mono ?_; rintro r w2 ⟨rfl, g2⟩
      go_wp2_with fail
      refine (hwk _).mono ?_; rintro r w3 ⟨rfl, g3⟩
      go_wp2
      go_ret
      exact ⟨rfl, g2.trans g3⟩
  · have h0 : prodI rs ≠ 0 := by omega
    have hl2 := revI_len h0
    have hl3 := revI_len (rs := rs.reverse) (by rw [prodI_reverse h0]; exact h0)
    rw [prodI_reverse h0] at hl3
    have hback : ∀ k : Nat, (k : Int) < prodI rs → ∃ m : Nat, (revI rs)[k]? = some (m : Int) ∧ (m : Int) < prodI rs ∧ (revI rs.reverse)[m]? = some (k : Int) := by
      intro k hk
      obtain ⟨m, e1, e2, e3⟩ := rev_back h0 hk
      refine ⟨m, ?_, e2, ?_⟩
      · rw [rev_next (by omega) h0, e1]
      · rw [rev_next (by rw [prodI_reverse h0]; omega) (by rw [prodI_reverse h0]; exact h0), e3]
    have hre1 : revE rs = 0 := by unfold revE; rw [if_neg h0]
    have hre2 : revE rs.reverse = 0 := by unfold revE; rw [if_neg (by rw [prodI_reverse h0]; exact h0)]
    have hn30 : n ≤ 30 := by rw [← hA.len]; exact (prodI_mem h0).1
    obtain ⟨Pn, hPn⟩ : ∃ Pn : Nat, prodI rs = (Pn : Int) := ⟨(prodI rs).toNat, by omega⟩
    rw [hPn] at hP hl2 hl3 hback
    have hP1 : Pn ≤ 2000 := by omega
    have hP0 : 1 ≤ Pn := by omega
    rw [Int.toNat_natCast] at hl2 hl3
    have t0 : ((Pn : Int) == 0) = false := by rw [beq_eq_false_iff_ne]; omega
    obtain ⟨i0, hi, hz0, hz1, hz2⟩ := info_parts int_info
    have hr1 := fun w' (g : Bel w w') => hR p n ca rs w' (hA.bel g) hn
    rw [hre1] at hr1
    have HA := Lib.hid hA
    have HB := Lib.hid hback
    have HL2 := Lib.hid hl2
    have HL3 := Lib.hid hl3
    have hlen := Lib.hid hA.len
    have HRE := Lib.hid hre2
    have HROW := Lib.hid hrow
    clear hA hp hbad h0 hl2 hl3 hback hre1 hre2 hPn hPP P
    go_enter Try.func8, Try.ntmps8
    go_wp2_with fail
    refine hP.mono ?_; rintro r w1 ⟨rfl, rfl⟩
    go_wp2_with fail
    refine (hwk _).mono ?_; rintro r w1 ⟨rfl, g1⟩
    clear hP hwk
    go_wp2
    go_loopw [6, 7] (fun v a wr => ∃ j : Nat, j ≤ n ∧ a = .int .i64 ((n : Int) - 1 - (j : Int)) ∧ wr.ownsRow w1.heap.size 3 1 v j ((rs.reverse.take j).map (Value.int .i64)) ∧ Bel w1 wr) (fun _ a _ => (intOf a + 1).toNat)
    case atStart => exact ⟨0, by omega, by simp, ⟨by simp, Or.inl ⟨rfl, rfl⟩⟩, Bel.refl _⟩
    case round =>
      obtain ⟨j, hj, rfl, hown, hB⟩ := hrel
      by_cases hlt : j < n
      · obtain ⟨k, hk⟩ : ∃ k : Nat, k = n - 1 - j := ⟨_, rfl⟩
        have hkn : k < n := by omega
        obtain ⟨A, oa, z, rfl, hAl, hz, hAc⟩ := HA.out.at hkn
        have hcj := ((g1.trans hB).cell (p := ⟨A, oa + k, none⟩) hAl).trans hAc
        have ek : (n : Int) - 1 - (j : Int) = (k : Int) := by omega
        have hz' : rs.reverse[j]? = some z := by
          rw [List.getElem?_reverse (by rw [hlen.out]; omega), hlen.out, ← hk]; exact hz
        have hnextH := Lib.hid (ints_take hz')
        obtain ⟨L, hL⟩ : ∃ L, L = (rs.reverse.take j).map (Value.int .i64) := ⟨_, rfl⟩
        rw [← hL] at hown hnextH
        have HK := Lib.hid hk
        clear hz hz' hL HA hAc hk HB HL2 HL3 hr1 hR hT
        rw [ek]
        go_wp2_with (at_builtin; refine wpList_append_own _ rfl _ _ 22 rfl w1.heap.size 3 i0 (.int .i64 0) 1 8 Try.underlying22 hi hz0 hz1 hz2 rfl (by decide) _ _ _ rfl (hown.alloc _) ⟨wr.heap.size, 0, none⟩ 1 1 [.int .i64 z] rfl rfl ?c1 ?c2 ?c3 ?c4 ?c5 ?_)
        case c1 =>
          intro i x hi
          match i, hi with
          | 0, hi => simp at hi; subst hi; simp [Addr.add]
          | i + 1, hi => simp at hi
        case c2 => intro x hx; simp at hx; subst hx; rfl
        case c3 => unfold maxLen; omega
        case c4 => omega
        case c5 => have := hB.size; simp; omega
        intro v' w2 hown2 hgrow _
        have hb2 := ((hB.alloc _).grown hgrow (ownsRow_block hown))
        rw [hnextH.out] at hown2
        clear hown hB
        go_wp2
        go_roundw
        case rel => exact ⟨j + 1, by omega, (by rw [← ek]; first | rfl | (simp; omega)), hown2, hb2⟩
        case measure => first | (simp [intOf]; done) | (simp [intOf]; omega)
      · obtain rfl : j = n := by omega
        rw [List.take_of_length_le (by rw [List.length_reverse, hlen.out]; omega)] at hown
        obtain ⟨q1, c1, rfl, hq⟩ := IL.own (by rw [List.length_reverse, hlen.out]) hown
        have B1 := g1.trans hB
        have hr2 := fun w' (g : Bel wr w') => hR q1 j c1 rs.reverse w' (hq.bel g) hn
        rw [HRE.out] at hr2
        clear hown HA g1 hB hq HRE hR
        obtain ⟨w2, rfl⟩ : ∃ w2 : World, w2 = wr := ⟨_, rfl⟩
        go_wp2_with fail
        refine (hr1 _ B1).mono ?_; rintro r w3 ⟨qa, ma, cga, rfl, la, g3⟩
        go_wp2_with fail
        refine (hr2 _ g3).mono ?_; rintro r w4 ⟨qb, mb, cgb, rfl, lb, g4⟩
        have em1 : ma = Pn := by rw [← la.len]; exact HL2.out
        have em2 : mb = Pn := by rw [← lb.len]; exact HL3.out
        subst em1
        subst em2
        have B4 := (B1.trans g3).trans g4
        have LA := Lib.hid (la.bel g4)
        have LB := Lib.hid lb
        clear hr1 hr2 la lb g3 g4 B1 HL2 HL3
        go_wp2
        go_loopw [12, 13, 71] (fun v _ a wr => ∃ k : Nat, k ≤ mb ∧ a = .int .i64 (k : Int) ∧ wr.ownsRow w4.heap.size 3 1 v k ((sv7 k).map (Value.int .i64)) ∧ Bel w4 wr) (fun _ _ a _ => mb - (intOf a).toNat)
        case atStart => exact ⟨0, by omega, by simp, ⟨by simp [sv7], Or.inl ⟨rfl, rfl⟩⟩, Bel.refl _⟩
        case round =>
          obtain ⟨k, hk, rfl, hown, hB⟩ := hrel
          by_cases hlt : k < mb
          · obtain ⟨m, e1, e2, e3⟩ := HB.out k (by omega)
            have hm : m < mb := by omega
            obtain ⟨A, oa, x, rfl, hAl, hx, hAc⟩ := LA.out.at hlt
            obtain ⟨B, ob, y, rfl, hBl, hy, hBc⟩ := LB.out.at hm
            obtain rfl : (m : Int) = x := by rw [e1] at hx; exact Option.some.inj hx
            obtain rfl : (k : Int) = y := by rw [e3] at hy; exact Option.some.inj hy
            have kA := (hB.cell (p := ⟨A, oa + k, none⟩) hAl).trans hAc
            have kB := (hB.cell (p := ⟨B, ob + m, none⟩) hBl).trans hBc
            have hnextH := Lib.hid (sv7_next k)
            obtain ⟨L, hL⟩ : ∃ L, L = (sv7 k).map (Value.int .i64) := ⟨_, rfl⟩
            rw [← hL] at hown hnextH
            clear hx hy hAc hBc e1 e3 hL HB LA LB hT
            go_wp2_with (at_builtin; refine wpList_append_own _ rfl _ _ 22 rfl w4.heap.size 3 i0 (.int .i64 0) 1 8 Try.underlying22 hi hz0 hz1 hz2 rfl (by decide) _ _ _ rfl (hown.alloc _) ⟨wr.heap.size, 0, none⟩ 1 1 [.int .i64 (7 * (k : Int))] rfl rfl ?d1 ?d2 ?d3 ?d4 ?d5 ?_)
            case d1 =>
              intro i x hi
              match i, hi with
              | 0, hi => simp at hi; subst hi; simp [Addr.add]
              | i + 1, hi => simp at hi
            case d2 => intro x hx; simp at hx; subst hx; rfl
            case d3 => unfold maxLen; omega
            case d4 => omega
            case d5 => have := hB.size; simp; omega
            intro v' w5 hown5 hgrow _
            have hb5 := ((hB.alloc _).grown hgrow (ownsRow_block hown))
            rw [hnextH.out] at hown5
            clear hown hB kA kB
            go_wp2
            go_roundw
            case rel => exact ⟨k + 1, by omega, (by first | rfl | simp), hown5, hb5⟩
            case measure => first | (simp [intOf]; done) | (simp [intOf]; omega)
          · obtain rfl : k = mb := by omega
            obtain ⟨G, cG, rfl, hG, hW⟩ := WL.own (sv7_len k) (by omega) hown
            have B5 := B4.trans hB
            have hGw : w.heap.size ≤ G := by have := B4.size; omega
            clear hown hB HB LA LB B4
            obtain ⟨hrow1, hrow2⟩ := HROW.out
            by_cases r1 : rows < 1
            · clear hT hW
              go_wp2
              go_ret
              exact ⟨rfl, B5⟩
            · obtain ⟨R, rfl⟩ : ∃ R : Nat, rows = (R : Int) := ⟨rows.toNat, by omega⟩
              have hR1 : 1 ≤ R := by omega
              have t3 : ((R : Int) == 0) = false := by rw [beq_eq_false_iff_ne]; omega
              by_cases r2 : (k : Int) % (R : Int) = 0
              · have t4 : ((k : Int) % (R : Int) != 0) = false := by rw [r2]; rfl
                obtain ⟨C, hC⟩ : ∃ C : Nat, (k : Int) / (R : Int) = (C : Int) := ⟨k / R, by rw [Int.natCast_ediv]⟩
                have hRC : R * C = k := by
                  have e := Int.mul_ediv_add_emod (k : Int) (R : Int)
                  rw [hC, r2, Int.add_zero, ← Int.natCast_mul] at e
                  omega
                have hC1 : 1 ≤ C := by
                  rcases Nat.eq_zero_or_pos C with h | h
                  · rw [h, Nat.mul_zero] at hRC; omega
                  · exact h
                have hCk : C ≤ k := by
                  have := Nat.mul_le_mul_right C hR1
                  omega
                have hRk : R ≤ k := by
                  have := Nat.mul_le_mul_left R hC1
                  omega
                obtain ⟨e1, e2, e3⟩ := trn_back (zs := sv7 k) hR1 hC1 (by rw [sv7_len]; exact hRC)
                rw [sv7_len] at e1 e2
                have hs1 := fun cc w' (h : WL w' G 0 k (sv7 k)) => hT G 0 k cc (sv7 k) (R : Int) (C : Int) w' h (by omega) (by unfold I64; omega) (by unfold I64; omega)
                have hs2 := fun cc w' (h : WL w' G 0 k (trL (sv7 k) (R : Int) (C : Int))) => hT G 0 k cc (trL (sv7 k) (R : Int) (C : Int)) (C : Int) (R : Int) w' h (by omega) (by unfold I64; omega) (by unfold I64; omega)
                rw [e1] at hs1
                rw [e2, e3] at hs2
                clear e1 e2 e3 hT r2 hRC
                go_wp2_with fail
                refine (hs1 _ _ hW).mono ?_; rintro r w6 ⟨rfl, t6, hW6⟩
                have B6 := B5.then t6 hGw
                clear hs1 t6 hW B5
                go_wp2_with fail
                refine (hs2 _ _ hW6).mono ?_; rintro r w7 ⟨rfl, t7, hW7⟩
                have B7 := B6.then t7 hGw
                clear hs2 t7 hW6 B6
                go_wp2
                go_loopw [14, 129] (fun _ a wr => ∃ j : Nat, j ≤ k ∧ a = .int .i64 (j : Int) ∧ wr = w7) (fun _ a _ => k - (intOf a).toNat)
                case atStart => exact ⟨0, by omega, by simp, rfl⟩
                case round =>
                  obtain ⟨j, hj, rfl, rfl⟩ := hrel
                  by_cases hlt3 : j < k
                  · have c0 := hW7.c j _ (sv7_at hlt3)
                    rw [Nat.zero_add] at c0
                    clear hW7
                    go_wp2
                    go_roundw
                    case rel => exact ⟨j + 1, by omega, (by first | rfl | simp), trivial⟩
                    case measure => first | (simp [intOf]; done) | (simp [intOf]; omega)
                  · clear hW7
                    go_wp2
                    go_ret
                    exact ⟨rfl, B7⟩
              · have t4 : ((k : Int) % (R : Int) != 0) = true := by rw [bne_iff_ne]; exact r2
                clear hT hW r2
                go_wp2
                go_ret
                exact ⟨rfl, B5⟩
end Go.Proofs.Ytniljnidpcgjgaa

/- The landed reach, by a division; Gather. -/
namespace Go.Proofs.Ytniljnidpcgjgaa
open Go.RowKit
set_option linter.unusedVariables false

theorem str_div {n o s c : Int} (h1 : 0 ≤ o) (h2 : 0 < c) (h3 : 1 ≤ s) (h4 : o < n) : strE n o s c = if (n - 1 - o) / s < c - 1 then 4 else 0 := by
  unfold strE
  rw [if_neg (by omega)]
  have hs : 0 < s := by omega
  by_cases h : (n - 1 - o) / s < c - 1
  · rw [if_pos h]
    have k := (Int.ediv_lt_iff_lt_mul hs).1 h
    rw [if_neg (by omega)]
  · rw [if_neg h]
    have k := (Int.le_ediv_iff_mul_le hs).1 (Int.not_lt.1 h)
    rw [if_pos (Or.inr (by omega))]
set_option maxHeartbeats 1000000 in
theorem strided_run (n o s c : Int) (w : World) (hn0 : 0 ≤ n) (hn1 : n ≤ 4611686018427387904) (hc : c ≤ 9223372036854775807) (hs : s ≤ 9223372036854775807) :
    Calls Try.prog 30 #[.int .i64 n, .int .i64 o, .int .i64 s, .int .i64 c] w fun r w' => r = .returned (.int .i64 (strE n o s c)) ∧ w = w' := by
  by_cases b1 : o < 0
  · rw [str_bad (Or.inl b1)]
    go_enter Try.func30, Try.ntmps30
    go_wp2
    go_ret
    exact ⟨rfl, rfl⟩
  by_cases b2 : c < 0
  · rw [str_bad (Or.inr (Or.inl b2))]
    go_enter Try.func30, Try.ntmps30
    go_wp2
    go_ret
    exact ⟨rfl, rfl⟩
  by_cases b3 : s < 1
  · rw [str_bad (Or.inr (Or.inr b3))]
    go_enter Try.func30, Try.ntmps30
    go_wp2
    go_ret
    exact ⟨rfl, rfl⟩
  by_cases b4 : 0 < c
  · have t4 : (c == 0) = false := by rw [beq_eq_false_iff_ne]; omega
    by_cases b5 : n ≤ o
    · have e : strE n o s c = 4 := str_no (i := 0) (by omega) (by omega) (by simp; exact b5)
      rw [e]
      clear e
      go_enter Try.func30, Try.ntmps30
      go_wp2
      go_ret
      exact ⟨rfl, rfl⟩
    · have e := str_div (n := n) (o := o) (s := s) (c := c) (by omega) b4 (by omega) (by omega)
      have t1 : (s == 0) = false := by rw [beq_eq_false_iff_ne]; omega
      have y0 : 0 ≤ (n - 1 - o) / s := Int.ediv_nonneg (by omega) (by omega)
      have y1 : (n - 1 - o) / s ≤ n - 1 - o := Int.ediv_le_self _ (by omega)
      have y2 : Int.tdiv (n - 1 - o) s = (n - 1 - o) / s := Int.tdiv_eq_ediv_of_nonneg (by omega)
      obtain ⟨y, hy⟩ : ∃ y, y = (n - 1 - o) / s := ⟨_, rfl⟩
      rw [← hy] at y0 y1 y2 e
      by_cases b6 : y < c - 1
      · rw [if_pos b6] at e
        rw [e]
        clear e hy
        go_enter Try.func30, Try.ntmps30
        go_wp2
        go_ret
        exact ⟨rfl, rfl⟩
      · rw [if_neg b6] at e
        rw [e]
        clear e hy
        go_enter Try.func30, Try.ntmps30
        go_wp2
        go_ret
        exact ⟨rfl, rfl⟩
  · obtain rfl : c = 0 := by omega
    have e : strE n o s 0 = 0 := str_yes (i := 0) (by omega) rfl (Or.inl rfl)
    rw [e]
    clear e
    go_enter Try.func30, Try.ntmps30
    go_wp2
    go_ret
    exact ⟨rfl, rfl⟩
set_option maxHeartbeats 4000000 in
theorem gat_said : GatSaid7 := by
  intro p n cap zs o s c w hA hn ho hs hc
  obtain ⟨ho0, ho1⟩ := ho
  obtain ⟨hs0, hs1⟩ := hs
  obtain ⟨hc0, hc1⟩ := hc
  have hlen := hA.len
  have hS := strided_run n o s c w (by omega) (by omega) hc1 hs1
  obtain ⟨E, hE⟩ : ∃ E, E = strE n o s c := ⟨_, rfl⟩
  have h3 := strE_two n o s c
  rw [← hE] at hS h3 ⊢
  by_cases h0 : E = 0
  · subst h0
    have hE' : strE zs.length o s c = 0 := by rw [hlen]; exact hE.symm
    obtain ⟨z1, z2, z3, z4⟩ := strE_zero hE.symm
    have z5 := gat_bound hE'
    rw [hlen] at z5
    obtain ⟨C, rfl⟩ : ∃ C : Nat, c = (C : Int) := ⟨c.toNat, by omega⟩
    have hat := fun (i : Nat) (hi : (i : Int) < (C : Int)) => gat_at hE' hi
    have hll : (gatL zs o s C).length = C := by rw [gat_len, if_pos hE']; rfl
    obtain ⟨T, hT⟩ : ∃ T, T = gatL zs o s C := ⟨_, rfl⟩
    rw [← hT] at hat hll ⊢
    have hm := make_ints C (by omega)
    have sf := run_store_int Try.prog
    have HA := Lib.hid hA
    have HT := Lib.hid hat
    have HL := Lib.hid hll
    clear hE hE' hA hat hll hT z4 h3
    go_enter Try.func22, Try.ntmps22
    go_wp2_with fail
    refine hS.mono ?_; rintro r w1 ⟨rfl, rfl⟩
    go_wp2
    obtain ⟨G, hG⟩ : ∃ G, G = w.heap.size := ⟨_, rfl⟩
    have W1 := made_ints w C 3 G hG
    obtain ⟨w1, hw1⟩ : ∃ w1, w1 = w.alloc (.cells (madeCells #[.int .i64 0] C) 3) := ⟨_, rfl⟩
    have B1 : Bel w w1 := by rw [hw1]; exact (Bel.refl w).alloc _
    have hG1 : w.heap.size ≤ G := by omega
    rw [← hw1] at W1 ⊢
    rw [← hG]
    clear hw1 hG hm
    go_loopw [12, 26] (fun _ b wr => ∃ (x : Nat) (L : List Int), x ≤ C ∧ b = .int .i64 (x : Int) ∧ WL wr G 0 C L ∧ (∀ i, i < x → L[i]? = T[i]?) ∧ Bel w wr) (fun _ b _ => C - (intOf b).toNat)
    case atStart => exact ⟨0, _, by omega, by simp, W1, fun i h => absurd h (Nat.not_lt_zero _), B1⟩
    case round =>
      obtain ⟨x, L, hx, rfl, hW, hL, hB⟩ := hrel
      clear W1 B1
      by_cases hlt : x < C
      · obtain ⟨k, z, hk, hkn, hz, hTz, hxk⟩ := HT.out x (by omega)
        rw [hlen] at hkn
        obtain ⟨xs, hxs⟩ : ∃ xs, xs = (x : Int) * s := ⟨_, rfl⟩
        rw [← hxs] at hk hxk
        have hx0 : 0 ≤ xs := by rw [hxs]; exact Int.mul_nonneg (by omega) (by omega)
        have f1 : (x : Int) * s = xs := hxs.symm
        clear hxs
        obtain ⟨A, oa, zz, rfl, hAl, hz', hAc⟩ := HA.out.at hkn
        obtain rfl : zz = z := by rw [hz] at hz'; exact (Option.some.inj hz').symm
        have kA := (hB.cell (p := ⟨A, oa + k, none⟩) hAl).trans hAc
        obtain ⟨z0, hz0⟩ : ∃ z0, L[x]? = some z0 := ⟨_, List.getElem?_eq_getElem (by rw [hW.len]; exact hlt)⟩
        have q0 := hW.c x z0 hz0
        have q1 := hW.z x hlt
        rw [Nat.zero_add] at q0 q1
        obtain ⟨w7, hw7⟩ : ∃ w7, w7 = wr.setCell ⟨G, x, none⟩ (.int .i64 zz) := ⟨_, rfl⟩
        have hW7 : WL w7 G 0 C (L.set x zz) := by
          have k := hW.set hlt zz
          rw [Nat.zero_add] at k
          rw [hw7]; exact k
        have hB7 : Bel w w7 := by rw [hw7]; exact hB.setCell (p := ⟨G, x, none⟩) hG1 _
        have hL7 : ∀ i, i < x + 1 → (L.set x zz)[i]? = T[i]? := by
          intro i hi
          by_cases e : i = x
          · subst e
            rw [List.getElem?_set_self (by rw [hW.len]; exact hlt), hTz]
          · rw [List.getElem?_set_ne (fun k => e k.symm)]
            exact hL i (by omega)
        have HW7 := Lib.hid hw7
        have HL7 := Lib.hid hL7
        clear hw7 hz hz' hAc hz0 hW hL hL7 hTz HA HT HL
        go_wp2
        go_roundw
        case rel =>
          have e := HW7.out
          subst e
          exact ⟨x + 1, _, by omega, (by first | rfl | simp), hW7, HL7.out, hB7⟩
        case measure => first | (simp [intOf]; done) | (simp [intOf]; omega)
      · obtain rfl : x = C := by omega
        have hLT : L = T := by
          refine List.ext_getElem? fun i => ?_
          by_cases hi : i < x
          · exact hL i hi
          · rw [List.getElem?_eq_none (by rw [hW.len]; omega), List.getElem?_eq_none (by rw [HL.out]; omega)]
        subst hLT
        clear HA HT HL hL
        go_wp2
        refine bodyPost_ret (by simp [results, go_sem]; try rfl) rfl ?_
        exact ⟨_, _, _, rfl, ⟨hW.len, Or.inr ⟨G, 0, rfl, hG1, hW⟩⟩, hB⟩
  · have hL : gatL zs o s c = [] := by unfold gatL; rw [hlen, if_neg (by rw [← hE]; exact h0)]
    rw [hL]
    have t0 : (E == 0) = false := by rw [beq_eq_false_iff_ne]; exact h0
    clear hE hA hL h0
    go_enter Try.func22, Try.ntmps22
    go_wp2_with fail
    refine hS.mono ?_; rintro r w1 ⟨rfl, rfl⟩
    go_wp2
    refine bodyPost_ret (by simp [results, go_sem]; try rfl) rfl ?_
    exact ⟨none, 0, 0, rfl, ⟨rfl, Or.inl rfl⟩, Bel.refl _⟩
end Go.Proofs.Ytniljnidpcgjgaa

/- The landed Scatter. -/
namespace Go.Proofs.Ytniljnidpcgjgaa
open Go.RowKit
set_option linter.unusedVariables false

/-- one place, when x elements are put -/
def scaP (zs fs : List Int) (o s : Int) (x i : Nat) : Int := if o ≤ (i : Int) ∧ ((i : Int) - o) % s = 0 ∧ ((i : Int) - o) / s < (x : Int) then fs.getD (((i : Int) - o) / s).toNat 0 else zs.getD i 0
theorem scaP_zero {zs fs : List Int} {o s : Int} {i : Nat} (hs : 1 ≤ s) : scaP zs fs o s 0 i = zs.getD i 0 := by
  unfold scaP
  rw [if_neg]
  rintro ⟨h1, h2, h3⟩
  have := Int.ediv_nonneg (a := (i : Int) - o) (b := s) (by omega) (by omega)
  omega
theorem scaP_all {zs fs : List Int} {o s : Int} {i : Nat} (h : strE zs.length o s fs.length = 0) : scaP zs fs o s fs.length i = scaV zs fs o s i := by
  unfold scaP scaV
  simp only [h, true_and]
theorem scaP_here {zs fs : List Int} {o s : Int} {x k : Nat} (hs : 1 ≤ s) (hk : o + (x : Int) * s = (k : Int)) : scaP zs fs o s (x + 1) k = fs.getD x 0 := by
  have e : (k : Int) - o = (x : Int) * s := by omega
  have h0 : 0 ≤ (x : Int) * s := Int.mul_nonneg (by omega) (by omega)
  have e1 : ((k : Int) - o) % s = 0 := by rw [e]; exact Int.mul_emod_left _ _
  have e2 : ((k : Int) - o) / s = (x : Int) := by rw [e]; exact Int.mul_ediv_cancel _ (by omega)
  unfold scaP
  rw [e1, e2, if_pos ⟨by omega, rfl, by omega⟩]; rfl
theorem scaP_there {zs fs : List Int} {o s : Int} {x k i : Nat} (hs : 1 ≤ s) (hk : o + (x : Int) * s = (k : Int)) (hi : i ≠ k) : scaP zs fs o s (x + 1) i = scaP zs fs o s x i := by
  have e : ((i : Int) - o) % s = 0 → ((i : Int) - o) / s ≠ (x : Int) := by
    intro h1 h2
    have h3 := Int.mul_ediv_add_emod ((i : Int) - o) s
    rw [h1, h2, Int.mul_comm] at h3
    omega
  unfold scaP
  by_cases h : o ≤ (i : Int) ∧ ((i : Int) - o) % s = 0 ∧ ((i : Int) - o) / s < (x : Int)
  · rw [if_pos h, if_pos ⟨h.1, h.2.1, by omega⟩]
  · rw [if_neg h, if_neg]
    rintro ⟨h1, h2, h3⟩
    have := e h2
    exact h ⟨h1, h2, by omega⟩
theorem scaL_bad {zs fs : List Int} {o s : Int} (h : strE zs.length o s fs.length ≠ 0) : scaL zs fs o s = zs := by
  refine List.ext_getElem? fun i => ?_
  by_cases hi : i < zs.length
  · rw [sca_at hi]
    unfold scaV
    rw [if_neg (fun k => h k.1), List.getD_eq_getElem?_getD, List.getElem?_eq_getElem hi]; rfl
  · rw [List.getElem?_eq_none (by rw [sca_len]; omega), List.getElem?_eq_none (by omega)]
set_option maxHeartbeats 4000000 in
theorem sca_said : ScaSaid7 := by
  intro G off n cap zs p m cb fs o s w hW hF hap hn hm ho hs
  obtain ⟨ho0, ho1⟩ := ho
  obtain ⟨hs0, hs1⟩ := hs
  have hlen := hW.len
  have hlf := hF.len
  have hS := strided_run n o s m w (by omega) (by omega) (by omega) hs1
  obtain ⟨E, hE⟩ : ∃ E, E = strE n o s m := ⟨_, rfl⟩
  rw [← hE] at hS ⊢
  by_cases h0 : E = 0
  · subst h0
    have hE' : strE zs.length o s fs.length = 0 := by rw [hlen, hlf]; exact hE.symm
    obtain ⟨z1, z2, z3, z4⟩ := strE_zero hE.symm
    have hat := fun (i : Nat) (hi : (i : Int) < (fs.length : Int)) => gat_at hE' hi
    rw [hlf] at hat
    have hst : ∀ i, i < n → zs[i]? = some (scaP zs fs o s 0 i) := fun i hi => by
      rw [scaP_zero z3, List.getD_eq_getElem?_getD, List.getElem?_eq_getElem (by omega)]; rfl
    have hen : ∀ L : List Int, L.length = n → (∀ i, i < n → L[i]? = some (scaP zs fs o s m i)) → L = scaL zs fs o s := by
      intro L h1 h2
      refine List.ext_getElem? fun i => ?_
      by_cases hi : i < n
      · rw [h2 i hi, sca_at (by omega), ← hlf, scaP_all hE']
      · rw [List.getElem?_eq_none (by omega), List.getElem?_eq_none (by rw [sca_len]; omega)]
    have sf := run_store_int Try.prog
    have HF := Lib.hid hF
    have HT := Lib.hid hat
    have HE := Lib.hid hen
    have HA := Lib.hid hap
    have HS := Lib.hid hst
    clear hE hE' hF hat hen z4 hap hst
    go_enter Try.func23, Try.ntmps23
    go_wp2_with fail
    refine hS.mono ?_; rintro r w1 ⟨rfl, rfl⟩
    go_wp2
    go_loopw [10, 11, 24] (fun _ _ b wr => ∃ (x : Nat) (L : List Int), x ≤ m ∧ b = .int .i64 (x : Int) ∧ WL wr G off n L ∧ (∀ i, i < n → L[i]? = some (scaP zs fs o s x i)) ∧ Touch G w wr) (fun _ _ b _ => m - (intOf b).toNat)
    case atStart => exact ⟨0, _, by omega, by simp, hW, HS.out, Touch.refl _ _⟩
    case round =>
      obtain ⟨x, L, hx, rfl, hW1, hL, hB⟩ := hrel
      clear hW
      by_cases hlt : x < m
      · obtain ⟨k, z, hk, hkn, _, _, hxk⟩ := HT.out x (by omega)
        rw [hlen] at hkn
        have e1 := fun i (hi : i ≠ k) => scaP_there (zs := zs) (fs := fs) z3 hk hi
        have e2 := scaP_here (zs := zs) (fs := fs) z3 hk
        obtain ⟨xs, hxs⟩ : ∃ xs, xs = (x : Int) * s := ⟨_, rfl⟩
        rw [← hxs] at hk hxk
        have hx0 : 0 ≤ xs := by rw [hxs]; exact Int.mul_nonneg (by omega) (by omega)
        have f1 : (x : Int) * s = xs := hxs.symm
        obtain ⟨A, oa, zz, rfl, hAl, hz', hAc⟩ := HF.out.at hlt
        have hne : A ≠ G := (HA.out.resolve_left (by omega)) A oa rfl
        have kA := (hB.cell (p := ⟨A, oa + x, none⟩) hAl hne).trans hAc
        rw [List.getD_eq_getElem?_getD, hz'] at e2
        have e2 : scaP zs fs o s (x + 1) k = zz := e2
        obtain ⟨z0, hz0⟩ : ∃ z0, L[k]? = some z0 := ⟨_, List.getElem?_eq_getElem (by rw [hW1.len]; exact hkn)⟩
        have q0 := hW1.c k z0 hz0
        have q1 := hW1.z k hkn
        obtain ⟨w7, hw7⟩ : ∃ w7, w7 = wr.setCell ⟨G, off + k, none⟩ (.int .i64 zz) := ⟨_, rfl⟩
        have hW7 : WL w7 G off n (L.set k zz) := by rw [hw7]; exact hW1.set hkn zz
        have hB7 : Touch G w w7 := by rw [hw7]; exact hB.setCell (p := ⟨G, off + k, none⟩) rfl _
        have hL7 : ∀ i, i < n → (L.set k zz)[i]? = some (scaP zs fs o s (x + 1) i) := by
          intro i hi
          by_cases e : i = k
          · subst e
            rw [List.getElem?_set_self (by rw [hW1.len]; exact hkn), e2]
          · rw [List.getElem?_set_ne (fun k => e k.symm), e1 i e]
            exact hL i hi
        have HW7 := Lib.hid hw7
        have HL7 := Lib.hid hL7
        clear hw7 hz' hAc hz0 hW1 hL hL7 e1 e2 HA HT HE HF HS hxs
        go_wp2
        go_roundw
        case rel =>
          have e := HW7.out
          subst e
          exact ⟨x + 1, _, by omega, (by first | rfl | simp), hW7, HL7.out, hB7⟩
        case measure => first | (simp [intOf]; done) | (simp [intOf]; omega)
      · obtain rfl : x = m := by omega
        have e := HE.out L hW1.len hL
        subst e
        clear HA HT HE HF HS hL
        go_wp2
        go_ret
        exact ⟨rfl, hB, hW1⟩
  · have t0 : (E == 0) = false := by rw [beq_eq_false_iff_ne]; exact h0
    have hL : scaL zs fs o s = zs := scaL_bad (by rw [hlen, hlf, ← hE]; exact h0)
    rw [hL]
    clear hE hF hL h0 hap
    go_enter Try.func23, Try.ntmps23
    go_wp2_with fail
    refine hS.mono ?_; rintro r w1 ⟨rfl, rfl⟩
    go_wp2
    go_ret
    exact ⟨rfl, Touch.refl _ _, hW⟩
set_option maxHeartbeats 1000000 in
theorem sca_nil : ScaNil7 := by
  intro q cap p m cb fs o s w hF hm ho hs
  obtain ⟨ho0, ho1⟩ := ho
  obtain ⟨hs0, hs1⟩ := hs
  have hS := strided_run 0 o s m w (by omega) (by omega) (by omega) hs1
  obtain ⟨E, hE⟩ : ∃ E, E = strE 0 o s m := ⟨_, rfl⟩
  rw [← hE] at hS ⊢
  by_cases h0 : E = 0
  · subst h0
    obtain ⟨z1, z2, z3, z4⟩ := strE_zero hE.symm
    obtain rfl : m = 0 := by
      rcases z4 with z4 | z4
      · omega
      · have k1 : ((m : Int) - 1) * s < 0 := by omega
        refine Classical.byContradiction fun h => ?_
        have := Int.mul_nonneg (a := (m : Int) - 1) (b := s) (by omega) (by omega)
        omega
    clear hE hF z4
    go_enter Try.func23, Try.ntmps23
    go_wp2_with fail
    refine hS.mono ?_; rintro r w1 ⟨rfl, rfl⟩
    go_wp2
    go_loopw [10, 11, 24] (fun _ _ b wr => b = .int .i64 0 ∧ wr = w) (fun _ _ b _ => 0)
    case atStart => exact ⟨rfl, rfl⟩
    case round =>
      obtain ⟨rfl, rfl⟩ := hrel
      go_wp2
      go_ret
      exact ⟨rfl, Bel.refl _⟩
  · have t0 : (E == 0) = false := by rw [beq_eq_false_iff_ne]; exact h0
    clear hE hF h0
    go_enter Try.func23, Try.ntmps23
    go_wp2_with fail
    refine hS.mono ?_; rintro r w1 ⟨rfl, rfl⟩
    go_wp2
    go_ret
    exact ⟨rfl, Bel.refl _⟩
end Go.Proofs.Ytniljnidpcgjgaa
