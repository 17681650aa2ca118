/- CplxLists' whole walk. -/
import Derived.Test.YtnclnbbnkfolgaaListR6
import Derived.Test.YtnclnbbnkfolgaaList6
import Derived.Test.YtnclnbbnkfolgaaPairsC6
import Derived.Test.YtnclnbbnkfolgaaPartsC6
import Derived.Test.YtnclnbbnkfolgaaKeepA
import Derived.Test.YtnclnbbnkfolgaaSaid6
namespace Go.Proofs.Ytnclnbbnkfolgaa
open Go.RowKit
set_option linter.unusedVariables false

/-- a list of integers that came in: its slice's place -/
def IS6 (w : World) (p : Option Addr) (zs : List Int) : Prop := zs.length = 0 ∨ ∃ B off, p = some ⟨B, off, none⟩ ∧ B < w.heap.size ∧ ∀ (j : Nat) z, zs[j]? = some z → w.cell? ⟨B, off + j, none⟩ = some (.int .i64 z)
/-- a list of floats: its slice's place -/
def FS6 (w : World) (p : Option Addr) (n : Nat) (F : Nat → Nat) : Prop := n = 0 ∨ ∃ G, p = some ⟨G, 0, none⟩ ∧ G < w.heap.size ∧ FArr w G n F
theorem IS6.of {w : World} {v : Value} {zs : List Int} (h : IRow w v zs) : ∃ p cap, v = .slice p zs.length cap ∧ IS6 w p zs := by
  cases h with
  | nil => exact ⟨_, _, rfl, Or.inl rfl⟩
  | none a cap => exact ⟨_, _, rfl, Or.inl rfl⟩
  | some b off cap _ h0 hc hm hb hcell => exact ⟨_, _, rfl, Or.inr ⟨b, off, rfl, hb, hcell⟩⟩
theorem FS6.of {w : World} {v : Value} {l : List Nat} {base n : Nat} (h : FRow6 w v l base) (hn : l.length = n) : ∃ p cap, v = .slice p n cap ∧ FS6 w p n (fun j => l.getD j 0) := by
  subst hn
  rcases h.form with ⟨rfl, rfl⟩ | ⟨g, cap, rfl, _⟩
  · exact ⟨_, _, rfl, Or.inl rfl⟩
  · obtain ⟨_, h2, _, h4⟩ := h.arr
    exact ⟨_, _, rfl, Or.inr ⟨g, rfl, h2, h4⟩⟩
theorem FRow6.low {w : World} {v : Value} {l : List Nat} {base b : Nat} (h : FRow6 w v l base) (hb : b ≤ base) : FRow6 w v l b := by
  refine ⟨?_⟩
  rcases h.form with h | ⟨g, cap, h1, h2, h3⟩
  · exact Or.inl h
  · exact Or.inr ⟨g, cap, h1, by omega, h3⟩
theorem wds_take {zs : List Int} {j : Nat} {z : Int} (h : zs[j]? = some z) : (((zs.take j).map wd).map (Value.float .f64)) ++ [Value.float .f64 (wd z)] = ((zs.take (j + 1)).map wd).map (Value.float .f64) := by
  rw [List.take_add_one, h]
  simp
theorem wds_all (zs : List Int) : zs.take zs.length = zs := List.take_length
theorem wds_get {zs : List Int} {j : Nat} {z : Int} (h : zs[j]? = some z) : (zs.map wd).getD j 0 = wd z := by
  rw [List.getD_eq_getElem?_getD, List.getElem?_map, h]; rfl
set_option maxRecDepth 10000 in
set_option maxHeartbeats 8000000 in
theorem lists6 (hwk : WakesSaid6) (pa pb : Option Addr) (ca cb : Nat) (za zb : List Int) (w : World) (ha : IS6 w pa za) (hb : IS6 w pb zb) (na : za.length * 8 ≤ 140737488351232) (nb : zb.length * 8 ≤ 140737488351232) :
    Calls Try.prog 7 #[.slice pa za.length ca, .slice pb zb.length cb] w fun e w' => e = .returned (.bool true) ∧ Bel w w' := by
  obtain ⟨i0, hi, hz0, hz1, hz2⟩ := info_parts float_info
  have sf := run_store_float Try.prog
  have HA := Lib.hid ha
  have HB := Lib.hid hb
  clear ha hb
  go_enter Try.func7, Try.ntmps7
  go_wp2
  go_loopw [5, 8, 20] (fun x _ i wr => ∃ (j : Nat), j ≤ za.length ∧ i = .int .i64 (j : Int) ∧ wr.ownsRow w.heap.size 23 1 x j (((za.take j).map wd).map (Value.float .f64)) ∧ Bel w wr) (fun _ _ i _ => za.length - (intOf i).toNat)
  case atStart => exact ⟨0, by omega, by simp, ⟨by simp, Or.inl ⟨rfl, rfl⟩⟩, Bel.refl _⟩
  case round =>
    obtain ⟨j, hj, rfl, hown, hB⟩ := hrel
    by_cases hlt : j < za.length
    · obtain ⟨z, hz⟩ : ∃ z, za[j]? = some z := ⟨_, List.getElem?_eq_getElem hlt⟩
      rcases HA.out with ha | ⟨b, off, rfl, hbw, hcell⟩
      · omega
      have hcj := (hB.cell (p := ⟨b, off + j, none⟩) hbw).trans (hcell j z hz)
      have hf := fun w => float_any z w
      have hnextH := Lib.hid (wds_take hz)
      obtain ⟨L, hL⟩ : ∃ L, L = ((za.take j).map wd).map (Value.float .f64) := ⟨_, rfl⟩
      rw [← hL] at hown hnextH
      obtain ⟨u, hu⟩ : ∃ u, u = wd z := ⟨_, rfl⟩
      rw [← hu] at hf hnextH
      clear hcell hz hL hu HB nb hwk
      go_wp2_with fail
      refine (hf _).mono ?_; rintro r w1 ⟨rfl, rfl⟩
      have hsz := hB.size
      go_wp2_with (at_builtin; refine wpList_append_own _ rfl _ _ 45 rfl w.heap.size 23 i0 (.float .f64 0) 1 8 Try.underlying45 hi hz0 hz1 hz2 rfl (by decide) _ _ _ rfl (hown.alloc _) ⟨wr.heap.size, 0, none⟩ 1 1 [.float .f64 u] rfl rfl ?c1 ?c2 ?c3 ?c4 ?c5 ?_)
      case c1 =>
        intro i x hi
        match i, hi with
        | 0, hi => simp at hi; subst hi; simp [Addr.add]
        | i + 1, hi => simp at hi
      case c2 => intro x hx; simp at hx; subst hx; rfl
      case c3 => unfold maxLen; omega
      case c4 => omega
      case c5 => simp; omega
      intro v' w2 hown2 hgrow _
      have hb2 := ((hB.alloc _).grown hgrow (ownsRow_block hown))
      rw [hnextH.out] at hown2
      clear hown hB
      go_wp2
      go_roundw
      case rel => exact ⟨j + 1, by omega, (by first | rfl | simp), hown2, hb2⟩
      case measure => simp [intOf]; omega
    · obtain rfl : j = za.length := by omega
      rw [wds_all] at hown
      have hR1 : FRow6 wr _ (za.map wd) w.heap.size := FRow6.of (by rw [List.length_map]; exact hown)
      obtain ⟨px, cx, rfl, hX⟩ := FS6.of hR1 (List.length_map ..)
      clear hown
      obtain ⟨w1, rfl⟩ : ∃ w1 : World, w1 = wr := ⟨_, rfl⟩
      go_wp2
      go_loopw [6, 10, 32] (fun x _ i wr => ∃ (j : Nat), j ≤ zb.length ∧ i = .int .i64 (j : Int) ∧ wr.ownsRow w1.heap.size 23 1 x j (((zb.take j).map wd).map (Value.float .f64)) ∧ Bel w1 wr) (fun _ _ i _ => zb.length - (intOf i).toNat)
      case atStart => exact ⟨0, by omega, by simp, ⟨by simp, Or.inl ⟨rfl, rfl⟩⟩, Bel.refl _⟩
      case round =>
        obtain ⟨j, hj, rfl, hown, hB2⟩ := hrel
        by_cases hlt2 : j < zb.length
        · obtain ⟨z, hz⟩ : ∃ z, zb[j]? = some z := ⟨_, List.getElem?_eq_getElem hlt2⟩
          rcases HB.out with hb | ⟨b, off, rfl, hbw, hcell⟩
          · omega
          have hcj := ((hB.trans hB2).cell (p := ⟨b, off + j, none⟩) hbw).trans (hcell j z hz)
          have hf := fun w => float_any z w
          have hnextH := Lib.hid (wds_take hz)
          obtain ⟨L, hL⟩ : ∃ L, L = ((zb.take j).map wd).map (Value.float .f64) := ⟨_, rfl⟩
          rw [← hL] at hown hnextH
          obtain ⟨u, hu⟩ : ∃ u, u = wd z := ⟨_, rfl⟩
          rw [← hu] at hf hnextH
          clear hcell hz hL hu HA na hwk hR1 hX hlt
          go_wp2_with fail
          refine (hf _).mono ?_; rintro r w2 ⟨rfl, rfl⟩
          have hsz := hB2.size
          go_wp2_with (at_builtin; refine wpList_append_own _ rfl _ _ 45 rfl w1.heap.size 23 i0 (.float .f64 0) 1 8 Try.underlying45 hi hz0 hz1 hz2 rfl (by decide) _ _ _ rfl (hown.alloc _) ⟨wr.heap.size, 0, none⟩ 1 1 [.float .f64 u] rfl rfl ?d1 ?d2 ?d3 ?d4 ?d5 ?_)
          case d1 =>
            intro i x hi
            match i, hi with
            | 0, hi => simp at hi; subst hi; simp [Addr.add]
            | i + 1, hi => simp at hi
          case d2 => intro x hx; simp at hx; subst hx; rfl
          case d3 => unfold maxLen; omega
          case d4 => omega
          case d5 => simp; omega
          intro v' w3 hown2 hgrow _
          have hb2 := ((hB2.alloc _).grown hgrow (ownsRow_block hown))
          rw [hnextH.out] at hown2
          clear hown hB2
          go_wp2
          go_roundw
          case rel => exact ⟨j + 1, by omega, (by first | rfl | simp), hown2, hb2⟩
          case measure => simp [intOf]; omega
        · obtain rfl : j = zb.length := by omega
          rw [wds_all] at hown
          have hR2 : FRow6 wr _ (zb.map wd) w1.heap.size := FRow6.of (by rw [List.length_map]; exact hown)
          obtain ⟨py, cy, rfl, hY⟩ := FS6.of hR2 (List.length_map ..)
          clear hown
          have hR1' := hR1.bel hB2
          have hX' : FS6 wr px za.length (fun j => (za.map wd).getD j 0) := by
            rcases hX with h | ⟨G, h1, h2, h3⟩
            · exact Or.inl h
            · exact Or.inr ⟨G, h1, Nat.lt_of_lt_of_le h2 hB2.size, h3.bel hB2 h2⟩
          have hB' := hB.trans hB2
          have hsz' : w.heap.size ≤ wr.heap.size := hB'.size
          clear hR1 hX hB hB2 hi hz0 hz1 hz2
          obtain ⟨w2, rfl⟩ : ∃ w2 : World, w2 = wr := ⟨_, rfl⟩
          by_cases hlen : za.length = zb.length
          · obtain ⟨n, hn⟩ : ∃ n, n = za.length := ⟨_, rfl⟩
            have hnb : zb.length = n := by omega
            have ea : (za.map wd).length = n := by rw [List.length_map]; exact hn.symm
            have eb : (zb.map wd).length = n := by rw [List.length_map]; exact hnb
            have hP := pairs_run _ _ (za.map wd) (zb.map wd) 0 w2 (hR1'.low (Nat.zero_le _)) (hR2.low (Nat.zero_le _)) (ea.trans eb.symm) (by omega)
            rw [ea] at hP
            have hn16 : n * 16 ≤ 281474976710656 := by omega
            have h63 : (n : Int) ≤ 9223372036854775807 := by omega
            have gA : ∀ j, j < n → ∃ z, za[j]? = some z := fun j hj => ⟨_, List.getElem?_eq_getElem (by omega)⟩
            have gB : ∀ j, j < n → ∃ z, zb[j]? = some z := fun j hj => ⟨_, List.getElem?_eq_getElem (by omega)⟩
            have HAn := HA.out
            have HBn := HB.out
            unfold IS6 at HAn HBn
            rw [hnb] at hP HBn hY ⊢
            rw [← hn] at hP HAn hX' ⊢
            replace HA := Lib.hid HAn
            replace HB := Lib.hid HBn
            clear HAn HBn hR1' hR2 hlt hlt2 hj hlen na nb
            clear hn hnb ea eb
            go_wp2_with fail
            refine hP.mono ?_; rintro r w3 ⟨L, rfl, hL1, hL2, hC, g3⟩
            go_wp2_with fail
            refine (hwk _).mono ?_; rintro r w4 ⟨rfl, g4⟩
            have hC4 := hC.bel g4 hL2
            have hL4 := Nat.lt_of_lt_of_le hL2 g4.size
            go_wp2_with fail
            refine (parts_run L n n _ w4 hL4 hC4 hn16).mono ?_; rintro r w5 ⟨P, Q, rfl, hP1, hQ1, hPQ, lP, lQ, tP, tQ, g5⟩
            have B5 : Bel w2 w5 := (g3.trans g4).trans g5
            have hC5 := hC4.bel g5 hL4
            have hL5 := Nat.lt_of_lt_of_le hL4 g5.size
            have hLP : L ≠ P := by omega
            have hLQ : L ≠ Q := by omega
            have hPw : w2.heap.size ≤ P := by have := g3.size; have := g4.size; omega
            have hQw : w2.heap.size ≤ Q := by have := g3.size; have := g4.size; omega
            clear hP g3 g4 g5 hC hC4 hL2 hL4 hP1 hQ1 hwk
            go_wp2
            go_loopw [15, 95] (fun _ a wr => ∃ (i : Nat) (C : Nat → Nat × Nat), i ≤ n ∧ a = .int .i64 (i : Int) ∧ CArr wr L n C ∧ (∀ j, i ≤ j → C j = ((za.map wd).getD j 0, (zb.map wd).getD j 0)) ∧ FArr wr P n (fun j => (za.map wd).getD j 0) ∧ FArr wr Q n (fun j => (zb.map wd).getD j 0) ∧ Bel w2 wr ∧ L < wr.heap.size ∧ P < wr.heap.size ∧ Q < wr.heap.size) (fun _ a _ => n - (intOf a).toNat)
            case atStart => exact ⟨0, _, by omega, rfl, hC5, fun j hj => rfl, tP, tQ, B5, hL5, lP, lQ⟩
            case round =>
              obtain ⟨i, C, hi, rfl, hC, hall, tP, tQ, B6, sL, sP, sQ⟩ := hrel
              clear hC5 B5 hL5 lP lQ
              by_cases hlt : i < n
              · obtain ⟨zi, hzi⟩ := gA i hlt
                obtain ⟨yi, hyi⟩ := gB i hlt
                rcases HA.out with h | ⟨A, oa, rfl, hAw, hAc⟩
                · omega
                rcases HB.out with h | ⟨B, ob, rfl, hBw, hBc⟩
                · omega
                have hca := ((hB'.trans B6).cell (p := ⟨A, oa + i, none⟩) hAw).trans (hAc i _ hzi)
                have hcb := ((hB'.trans B6).cell (p := ⟨B, ob + i, none⟩) hBw).trans (hBc i _ hyi)
                have sA := Nat.lt_of_lt_of_le hAw (hB'.trans B6).size
                have sB := Nat.lt_of_lt_of_le hBw (hB'.trans B6).size
                have eC : C i = (wd zi, wd yi) := by rw [hall i (Nat.le_refl _), wds_get hzi, wds_get hyi]
                have c0 := hC.c0 i hlt
                have c1 := hC.c1 i hlt
                have cP := tP.c i hlt
                have cQ := tQ.c i hlt
                rw [eC] at c0 c1
                rw [wds_get hzi] at cP
                rw [wds_get hyi] at cQ
                have f1 : ∀ w, Calls Try.prog 21 #[.int .i64 zi] w fun r w' => r = .returned (.float .f64 (wd zi)) ∧ Bel w w' := fun w => (float_any zi w).mono fun _ _ ⟨h, k⟩ => ⟨h, k ▸ Bel.refl _⟩
                have f2 : ∀ w, Calls Try.prog 21 #[.int .i64 yi] w fun r w' => r = .returned (.float .f64 (wd yi)) ∧ Bel w w' := fun w => (float_any yi w).mono fun _ _ ⟨h, k⟩ => ⟨h, k ▸ Bel.refl _⟩
                have i1 := fun w => is_any (wd zi) (wd yi) (wd zi) (wd yi) w (Or.inl rfl) (Or.inl rfl)
                have s1 : ∀ w, Calls Try.prog 24 #[.float .f64 (wd zi), .float .f64 (wd zi)] w fun r w' => r = .returned (.bool true) ∧ Bel w w' := fun w => (same_any (wd zi) (wd zi) w (Or.inl rfl)).mono fun _ _ ⟨h, k⟩ => ⟨h, k ▸ Bel.refl _⟩
                have s2 : ∀ w, Calls Try.prog 24 #[.float .f64 (wd yi), .float .f64 (wd yi)] w fun r w' => r = .returned (.bool true) ∧ Bel w w' := fun w => (same_any (wd yi) (wd yi) w (Or.inl rfl)).mono fun _ _ ⟨h, k⟩ => ⟨h, k ▸ Bel.refl _⟩
                clear hAc hBc hzi hyi HA HB eC
                go_upto_region 23 with fail
                refine lists_reg _ A B L P Q oa ob n ca cb i zi yi ⟨_, rfl, rfl, rfl, rfl⟩ ⟨_, rfl, rfl, rfl, rfl⟩ ⟨_, rfl, rfl, rfl, rfl⟩ ⟨_, rfl, rfl, rfl, rfl⟩ ⟨_, rfl, rfl, rfl, rfl⟩ ⟨_, rfl, rfl, rfl, rfl⟩ ⟨_, rfl, rfl, rfl, rfl⟩ ⟨_, rfl, rfl, rfl, rfl⟩ ⟨_, rfl, rfl, rfl, rfl⟩ ⟨_, rfl, rfl, rfl, rfl⟩ ⟨_, rfl, rfl, rfl, rfl⟩ ⟨_, rfl, rfl, rfl, rfl⟩ ⟨_, rfl, rfl, rfl, rfl⟩ ⟨_, rfl, rfl, rfl, rfl⟩ ⟨_, rfl, rfl, rfl, rfl⟩ ⟨_, rfl, rfl, rfl, rfl⟩ ⟨_, rfl, rfl, rfl, rfl⟩ ⟨_, rfl, rfl, rfl, rfl⟩ ⟨_, rfl, rfl, rfl, rfl⟩ ⟨_, rfl, rfl, rfl, rfl⟩ ⟨_, rfl, rfl, rfl, rfl⟩ ⟨_, rfl, rfl, rfl, rfl⟩ ⟨_, rfl, rfl, rfl, rfl⟩ ⟨_, rfl, rfl, rfl, rfl⟩ ⟨_, rfl, rfl, rfl, rfl⟩ ⟨_, rfl, rfl, rfl, rfl⟩ ⟨_, rfl, rfl, rfl, rfl⟩ ⟨_, rfl, rfl, rfl, rfl⟩ ⟨_, rfl, rfl, rfl, rfl⟩ ⟨_, rfl, rfl, rfl, rfl⟩ ⟨_, rfl, rfl, rfl, rfl⟩ ⟨_, rfl, rfl, rfl, rfl⟩ ⟨_, rfl, rfl, rfl, rfl⟩ ⟨_, rfl, rfl, rfl, rfl⟩ ⟨_, rfl, rfl, rfl, rfl⟩ ⟨_, rfl, rfl, rfl, rfl⟩ ⟨_, rfl, rfl, rfl, rfl⟩ ⟨_, rfl, rfl, rfl, rfl⟩ ⟨_, rfl, rfl, rfl, rfl⟩ ⟨_, rfl, rfl, rfl, rfl⟩ ⟨_, rfl, rfl, rfl, rfl⟩ ⟨_, rfl, rfl, rfl, rfl⟩ rfl (by decide +kernel) rfl rfl rfl rfl rfl rfl rfl hlt (fun w' h => (h.cell sA).trans hca) (fun w' h => (h.cell sB).trans hcb) (fun w' h => (h.cell sL).trans c0) (fun w' h => (h.cell sL).trans c1) (fun w' h => (h.cell sP).trans cP) (fun w' h => (h.cell sQ).trans cQ) f1 f2 i1 s1 s2 ?_
                intro f w6 g6 hf
                have hC6 := hC.bel g6 sL
                have q0 := hC6.c0 i hlt
                have q1 := hC6.z0 i hlt
                obtain ⟨q2, q3⟩ := hC6.mid hlt (.float .f64 0)
                obtain ⟨w7, hw7⟩ : ∃ w7, w7 = (w6.setCell ⟨L, i * 2, none⟩ (.float .f64 0)).setCell ⟨L, i * 2 + 1, none⟩ (.float .f64 0) := ⟨_, rfl⟩
                have s7 : w7.heap.size = w6.heap.size := by rw [hw7]; simp
                have s6 := g6.size
                have hC7 : CArr w7 L n (fun j => if j = i then (0, 0) else C j) := by rw [hw7]; exact hC6.set hlt 0 0
                have tP7 : FArr w7 P n (fun j => (za.map wd).getD j 0) := by rw [hw7]; exact ((tP.bel g6 sP).off (Ne.symm hLP) _).off (Ne.symm hLP) _
                have tQ7 : FArr w7 Q n (fun j => (zb.map wd).getD j 0) := by rw [hw7]; exact ((tQ.bel g6 sQ).off (Ne.symm hLQ) _).off (Ne.symm hLQ) _
                have hLw : w2.heap.size ≤ L := hL1
                have B7 : Bel w2 w7 := by rw [hw7]; exact ((B6.trans g6).setCell (p := ⟨L, i * 2, none⟩) hLw _).setCell (p := ⟨L, i * 2 + 1, none⟩) hLw _
                have hall7 : ∀ j, i + 1 ≤ j → (if j = i then (0, 0) else C j) = ((za.map wd).getD j 0, (zb.map wd).getD j 0) := fun j hj => by rw [if_neg (by omega)]; exact hall j (by omega)
                have lL7 : L < w7.heap.size := by omega
                have lP7 : P < w7.heap.size := by omega
                have lQ7 : Q < w7.heap.size := by omega
                have HW7 := Lib.hid hw7
                clear hw7 hC hC6 hall tP tQ B6 sL sP sQ hca hcb c0 c1 cP cQ f1 f2 i1 s1 s2 g6 s7 s6 sA sB
                unfold actOf
                simp only [List.mapIdx_toArray, List.mapIdx_cons, List.mapIdx_nil, List.mem_cons, List.mem_nil_iff, Nat.reduceEqDiff, Nat.reduceAdd, or_false, or_true, if_true, if_false, hf]
                go_wp2
                go_roundw
                case rel =>
                  rw [← HW7.out]
                  exact ⟨i + 1, _, by omega, (by first | rfl | simp), hC7, hall7, tP7, tQ7, B7, lL7, lP7, lQ7⟩
                case measure => simp [intOf]; omega
              · obtain rfl : i = n := by omega
                have hn16' := hn16
                clear hC hall hlt
                go_wp2
                go_loopw [16, 147] (fun _ a wr => ∃ (k : Nat) (F E : Nat → Nat), k ≤ i ∧ a = .int .i64 (k : Int) ∧ FArr wr P i F ∧ FArr wr Q i E ∧ Bel w2 wr ∧ P < wr.heap.size ∧ Q < wr.heap.size) (fun _ a _ => i - (intOf a).toNat)
                case atStart => exact ⟨0, _, _, by omega, rfl, tP, tQ, B6, sP, sQ⟩
                case round =>
                  obtain ⟨k, F, E, hk, rfl, hF, hE, B8, lP8, lQ8⟩ := hrel
                  clear tP tQ B6 sL sP sQ
                  by_cases hlt : k < i
                  · have p0 := hF.c k hlt
                    have p1 := hF.z k hlt
                    have hE1 := hE.off (k := k) (Ne.symm hPQ) (.float .f64 0)
                    have p2 := hE1.c k hlt
                    have p3 := hE1.z k hlt
                    obtain ⟨w9, hw9⟩ : ∃ w9, w9 = (wr.setCell ⟨P, k, none⟩ (.float .f64 0)).setCell ⟨Q, k, none⟩ (.float .f64 0) := ⟨_, rfl⟩
                    have hF9 : FArr w9 P i (fun j => if j = k then 0 else F j) := by rw [hw9]; exact (hF.set hlt 0).off hPQ _
                    have hE9 : FArr w9 Q i (fun j => if j = k then 0 else E j) := by rw [hw9]; exact hE1.set hlt 0
                    have B9 : Bel w2 w9 := by rw [hw9]; exact (B8.setCell (p := ⟨P, k, none⟩) hPw _).setCell (p := ⟨Q, k, none⟩) hQw _
                    have lP9 : P < w9.heap.size := by rw [hw9]; simp; exact lP8
                    have lQ9 : Q < w9.heap.size := by rw [hw9]; simp; exact lQ8
                    have HW9 := Lib.hid hw9
                    clear hw9 hF hE hE1 B8 lP8 lQ8
                    go_wp2
                    go_roundw
                    case rel =>
                      rw [← HW9.out]
                      exact ⟨k + 1, _, _, by omega, (by first | rfl | simp), hF9, hE9, B9, lP9, lQ9⟩
                    case measure => simp [intOf]; omega
                  · clear hF hE lP8 lQ8
                    go_wp2
                    go_loopw [17, 159] (fun _ a wr => ∃ (k : Nat), k ≤ i ∧ a = .int .i64 (k : Int) ∧ Bel w2 wr) (fun _ a _ => i - (intOf a).toNat)
                    case atStart => exact ⟨0, by omega, rfl, B8⟩
                    case round =>
                      obtain ⟨m, hm, rfl, B10⟩ := hrel
                      clear B8
                      by_cases hlt : m < i
                      · obtain ⟨zi, hzi⟩ := gA m hlt
                        obtain ⟨yi, hyi⟩ := gB m hlt
                        rcases HA.out with h | ⟨A, oa, rfl, hAw, hAc⟩
                        · omega
                        rcases HB.out with h | ⟨B, ob, rfl, hBw, hBc⟩
                        · omega
                        rcases hX' with h | ⟨G, rfl, hGw, hGc⟩
                        · omega
                        rcases hY with h | ⟨H, rfl, hHw, hHc⟩
                        · omega
                        have hca := ((hB'.trans B10).cell (p := ⟨A, oa + m, none⟩) hAw).trans (hAc m _ hzi)
                        have hcb := ((hB'.trans B10).cell (p := ⟨B, ob + m, none⟩) hBw).trans (hBc m _ hyi)
                        have sA := Nat.lt_of_lt_of_le hAw (hB'.trans B10).size
                        have sB := Nat.lt_of_lt_of_le hBw (hB'.trans B10).size
                        have hcg := (B10.cell (p := ⟨G, m, none⟩) hGw).trans (hGc.c m hlt)
                        have hch := (B10.cell (p := ⟨H, m, none⟩) hHw).trans (hHc.c m hlt)
                        rw [wds_get hzi] at hcg
                        rw [wds_get hyi] at hch
                        have sG := Nat.lt_of_lt_of_le hGw B10.size
                        have sH := Nat.lt_of_lt_of_le hHw B10.size
                        have f1 : ∀ w, Calls Try.prog 21 #[.int .i64 zi] w fun r w' => r = .returned (.float .f64 (wd zi)) ∧ Bel w w' := fun w => (float_any zi w).mono fun _ _ ⟨h, k⟩ => ⟨h, k ▸ Bel.refl _⟩
                        have f2 : ∀ w, Calls Try.prog 21 #[.int .i64 yi] w fun r w' => r = .returned (.float .f64 (wd yi)) ∧ Bel w w' := fun w => (float_any yi w).mono fun _ _ ⟨h, k⟩ => ⟨h, k ▸ Bel.refl _⟩
                        have s1 : ∀ w, Calls Try.prog 24 #[.float .f64 (wd zi), .float .f64 (wd zi)] w fun r w' => r = .returned (.bool true) ∧ Bel w w' := fun w => (same_any (wd zi) (wd zi) w (Or.inl rfl)).mono fun _ _ ⟨h, k⟩ => ⟨h, k ▸ Bel.refl _⟩
                        have s2 : ∀ w, Calls Try.prog 24 #[.float .f64 (wd yi), .float .f64 (wd yi)] w fun r w' => r = .returned (.bool true) ∧ Bel w w' := fun w => (same_any (wd yi) (wd yi) w (Or.inl rfl)).mono fun _ _ ⟨h, k⟩ => ⟨h, k ▸ Bel.refl _⟩
                        clear hAc hBc hzi hyi HA HB hGc hHc
                        go_upto_region 35 with fail
                        refine back_reg _ A B G H oa ob i ca cb cx cy m zi yi ⟨_, rfl, rfl, rfl, rfl⟩ ⟨_, rfl, rfl, rfl, rfl⟩ ⟨_, rfl, rfl, rfl, rfl⟩ ⟨_, rfl, rfl, rfl, rfl⟩ ⟨_, rfl, rfl, rfl, rfl⟩ ⟨_, rfl, rfl, rfl, rfl⟩ ⟨_, rfl, rfl, rfl, rfl⟩ ⟨_, rfl, rfl, rfl, rfl⟩ ⟨_, rfl, rfl, rfl, rfl⟩ ⟨_, rfl, rfl, rfl, rfl⟩ ⟨_, rfl, rfl, rfl, rfl⟩ ⟨_, rfl, rfl, rfl, rfl⟩ ⟨_, rfl, rfl, rfl, rfl⟩ ⟨_, rfl, rfl, rfl, rfl⟩ ⟨_, rfl, rfl, rfl, rfl⟩ ⟨_, rfl, rfl, rfl, rfl⟩ ⟨_, rfl, rfl, rfl, rfl⟩ ⟨_, rfl, rfl, rfl, rfl⟩ ⟨_, rfl, rfl, rfl, rfl⟩ ⟨_, rfl, rfl, rfl, rfl⟩ ⟨_, rfl, rfl, rfl, rfl⟩ ⟨_, rfl, rfl, rfl, rfl⟩ ⟨_, rfl, rfl, rfl, rfl⟩ ⟨_, rfl, rfl, rfl, rfl⟩ rfl (by decide +kernel) rfl rfl rfl rfl rfl rfl hlt (fun w' h => (h.cell sA).trans hca) (fun w' h => (h.cell sB).trans hcb) (fun w' h => (h.cell sG).trans hcg) (fun w' h => (h.cell sH).trans hch) f1 f2 s1 s2 ?_
                        intro f w11 g11 hf
                        have B11 := B10.trans g11
                        clear g11 B10 hca hcb hcg hch f1 f2 s1 s2 sA sB sG sH
                        unfold actOf
                        simp only [List.mapIdx_toArray, List.mapIdx_cons, List.mapIdx_nil, List.mem_cons, List.mem_nil_iff, Nat.reduceEqDiff, Nat.reduceAdd, or_false, or_true, if_true, if_false, hf]
                        go_wp2
                        go_roundw
                        case rel => exact ⟨m + 1, by omega, (by first | rfl | simp), B11⟩
                        case measure => simp [intOf]; omega
                      · have B12 := hB'.trans B10
                        clear B10 HA HB hX' hY
                        go_wp2
                        go_ret
                        exact ⟨rfl, B12⟩
          · have hP := pairs_no _ _ _ _ _ _ w2 hR1' hR2 (by rw [List.length_map, List.length_map]; exact hlen)
            have t1 : ((za.length : Int) != (zb.length : Int)) = true := by rw [bne_iff_ne]; omega
            clear hR1' hR2 hX' hY HA HB
            go_wp2_with fail
            refine hP.mono ?_; rintro r w3 ⟨rfl, rfl⟩
            go_wp2_with fail
            refine (hwk _).mono ?_; rintro r w4 ⟨rfl, g4⟩
            go_wp2_with fail
            refine (hwk _).mono ?_; rintro r w5 ⟨rfl, g5⟩
            go_wp2
            go_ret
            exact ⟨ret_bool (by simp), (hB'.trans g4).trans g5⟩
end Go.Proofs.Ytnclnbbnkfolgaa
