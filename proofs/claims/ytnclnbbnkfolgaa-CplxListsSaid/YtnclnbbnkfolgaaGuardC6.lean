/- The landed Guard: the first number of a list that may not be transformed. -/
import Derived.Test.YtnclnbbnkfolgaaRow6
import Derived.Test.YtnclnbbnkfolgaaAbs
import Derived.Test.YtnclnbbnkfolgaaOrd
namespace Go.Proofs.Ytnclnbbnkfolgaa
open Go.RowKit

theorem allowed_any (x : Nat) (w : World) (hx : x < 18446744073709551616) : Calls Try.prog 28 #[.float .f64 x] w fun e w' => e = .returned (.bool (may6 x)) ∧ w = w' := by
  have hy := Nat.mod_lt x (show 0 < 9223372036854775808 by decide)
  have h4 := Flt.ord4 (x % 9223372036854775808) 8660422083433463808 hy (by decide)
  have hb := fun w => abs_any x w hx
  obtain ⟨b, hbb⟩ : ∃ b, b = may6 x := ⟨_, rfl⟩
  rw [← hbb]
  unfold may6 at hbb
  generalize x % 9223372036854775808 = y at *
  rcases h4 with ⟨h1, h2⟩ | ⟨h1, h2⟩ | ⟨h1, h2, _⟩ | ⟨h1, h2⟩
  · obtain rfl : b = true := by rw [hbb]; exact decide_eq_true (by omega)
    clear hbb
    have h1 : FloatKind.f64.format.order y 8660422083433463808 = some .lt := h1
    go_enter Try.func28, Try.ntmps28
    go_wp2_with fail
    refine (hb _).mono ?_; rintro r w1 ⟨rfl, rfl⟩
    go_wp2
    go_ret
    exact ⟨rfl, rfl⟩
  · obtain rfl : b = true := by rw [hbb]; exact decide_eq_true (by omega)
    clear hbb
    have h1 : FloatKind.f64.format.order y 8660422083433463808 = some .eq := h1
    go_enter Try.func28, Try.ntmps28
    go_wp2_with fail
    refine (hb _).mono ?_; rintro r w1 ⟨rfl, rfl⟩
    go_wp2
    go_ret
    exact ⟨rfl, rfl⟩
  · obtain rfl : b = false := by rw [hbb]; exact decide_eq_false (by omega)
    clear hbb
    have h1 : FloatKind.f64.format.order y 8660422083433463808 = some .gt := h1
    go_enter Try.func28, Try.ntmps28
    go_wp2_with fail
    refine (hb _).mono ?_; rintro r w1 ⟨rfl, rfl⟩
    go_wp2
    go_ret
    exact ⟨rfl, rfl⟩
  · obtain rfl : b = false := by rw [hbb]; exact decide_eq_false (by omega)
    clear hbb
    have h1 : FloatKind.f64.format.order y 8660422083433463808 = none := h1
    go_enter Try.func28, Try.ntmps28
    go_wp2_with fail
    refine (hb _).mono ?_; rintro r w1 ⟨rfl, rfl⟩
    go_wp2
    go_ret
    exact ⟨rfl, rfl⟩
theorem closure_any (x y A : Nat) (w : World) (hx : x < 18446744073709551616) (hy : y < 18446744073709551616) (hA : w.cell? ⟨A, 0, none⟩ = some (.func (.func 28) #[] #[])) :
    Calls Try.prog 31 #[dv x y, .pointer (some ⟨A, 0, none⟩)] w fun e w' => e = .returned (.bool (bad6 (x, y))) ∧ Bel w w' := by
  have hl := World.block_lt_of_cell? w _ hA
  have h1 := fun w => allowed_any x w hx
  have h2 := fun w => allowed_any y w hy
  unfold bad6
  simp only
  generalize may6 x = b at *
  generalize may6 y = c at *
  cases b <;> cases c <;>
  · go_enter Try.func31, Try.ntmps31
    go_wp2_with fail
    refine (h1 _).mono ?_; rintro r w1 ⟨rfl, rfl⟩
    go_wp2_with fail
    try (refine (h2 _).mono ?_; rintro r w1 ⟨rfl, rfl⟩)
    try go_wp2
    go_ret
    exact ⟨rfl, (Bel.refl _).alloc _⟩
def gIx6 (l : List (Nat × Nat)) : Int := match l.findIdx? bad6 with | none => -1 | some i => (i : Int)
theorem gIx6_none {l : List (Nat × Nat)} (h : ∀ (j : Nat) c, l[j]? = some c → bad6 c = false) : gIx6 l = -1 := by
  have e : l.findIdx? bad6 = none := by
    rw [List.findIdx?_eq_none_iff]
    intro x hx
    obtain ⟨j, hj⟩ := List.mem_iff_getElem?.1 hx
    exact h j x hj
  unfold gIx6; rw [e]
theorem gIx6_some {l : List (Nat × Nat)} {i : Nat} {c : Nat × Nat} (hi : l[i]? = some c) (hb : bad6 c = true) (h : ∀ (j : Nat) c, j < i → l[j]? = some c → bad6 c = false) : gIx6 l = (i : Int) := by
  obtain ⟨hl, he⟩ := List.getElem?_eq_some_iff.1 hi
  have e : l.findIdx? bad6 = some i := by
    rw [List.findIdx?_eq_some_iff_getElem]
    refine ⟨hl, by rw [he]; exact hb, fun j hj => ?_⟩
    rw [h j _ hj (List.getElem?_eq_getElem (by omega))]; decide
  unfold gIx6; rw [e]
theorem index_any (v : Value) (l : List (Nat × Nat)) (base A : Nat) (w : World) (hR : CRow6 w v l base) (hW : ∀ c ∈ l, W64 c.1 ∧ W64 c.2) (hA : w.cell? ⟨A, 0, none⟩ = some (.func (.func 28) #[] #[])) :
    Calls Try.prog 30 #[v, .func (.func 31) #[] #[.pointer (some ⟨A, 0, none⟩)]] w fun r w' => r = .returned (.int .i64 (gIx6 l)) ∧ Bel w w' := by
  have hl := World.block_lt_of_cell? w _ hA
  rcases hR.form with ⟨rfl, rfl⟩ | ⟨g, cap, rfl, hg0, hg, hcap, hmax, hcells⟩
  · have e : gIx6 [] = -1 := rfl
    rw [e]
    go_enter Try.func30, Try.ntmps30
    go_wp2
    go_loop [8] (fun a => a = .int .i64 0) (fun _ => 0)
    case atStart => rfl
    case round =>
      obtain rfl := hrel
      go_wp2
      go_ret
      exact ⟨rfl, Bel.refl _⟩
  · have hm : (l.length : Int) ≤ 9223372036854775807 := by have := hmax; simp [maxLen] at this; omega
    go_enter Try.func30, Try.ntmps30
    go_wp2
    go_loopw [5, 8] (fun _ a wr => ∃ i : Nat, i ≤ l.length ∧ a = .int .i64 (i : Int) ∧ (∀ (j : Nat) c, j < i → l[j]? = some c → bad6 c = false) ∧ Bel w wr) (fun _ a _ => l.length - (intOf a).toNat)
    case atStart => exact ⟨0, by omega, rfl, fun j _ hj => absurd hj (by omega), Bel.refl _⟩
    case round =>
      obtain ⟨i, hi, rfl, hall, hB⟩ := hrel
      by_cases hlt : i < l.length
      · obtain ⟨c, hc⟩ : ∃ c, l[i]? = some c := ⟨_, List.getElem?_eq_getElem hlt⟩
        obtain ⟨x, y⟩ := c
        obtain ⟨c0, c1, _, _⟩ := hcells i _ hc
        obtain ⟨x64, y64⟩ := hW _ (List.mem_of_getElem? hc)
        have k0 := (hB.cell (p := ⟨g, i * 2, none⟩) hg).trans c0
        have k1 := (hB.cell (p := ⟨g, i * 2 + 1, none⟩) hg).trans c1
        have kA := (hB.cell (p := ⟨A, 0, none⟩) hl).trans hA
        have hcl := closure_any x y A wr x64 y64 kA
        cases hb : bad6 (x, y) with
        | true =>
          have hres := gIx6_some hc hb hall
          rw [hb] at hcl
          clear hcells hall c0 c1 hc hW
          go_wp2_with fail
          refine hcl.mono ?_; rintro r w1 ⟨rfl, g1⟩
          go_wp2
          go_ret
          exact ⟨by rw [hres]; rfl, hB.trans g1⟩
        | false =>
          have hnext : ∀ (j : Nat) c, j < i + 1 → l[j]? = some c → bad6 c = false := by
            intro j c hj hjc
            by_cases e : j = i
            · subst e; rw [hc] at hjc; obtain rfl := Option.some.inj hjc; exact hb
            · exact hall j c (by omega) hjc
          rw [hb] at hcl
          clear hcells hall c0 c1 hc hW
          go_wp2_with fail
          refine hcl.mono ?_; rintro r w1 ⟨rfl, g1⟩
          go_wp2
          go_roundw
          case rel => exact ⟨i + 1, by omega, by simp, hnext, hB.trans g1⟩
          case measure => simp [intOf]; omega
      · obtain rfl : i = l.length := by omega
        have hres := gIx6_none (l := l) (fun j c hj => hall j c (List.getElem?_eq_some_iff.1 hj).1 hj)
        clear hcells hall hW
        go_wp2
        go_ret
        exact ⟨by rw [hres]; rfl, hB⟩
theorem guard_said6 : GuardSaid6 := by
  intro v l base w hR hW
  have sf : ∀ (a : Addr) (f : Fn) (m : Mode) (w : World), (store a (.func f #[] #[]) m).run Try.prog w = stored Try.prog w a (.func f #[] #[]) m := fun a f m w => run_store _ w a _ m rfl
  have hI := fun A w' (hB : Bel w w') h => index_any v l base A w' (hR.bel hB) hW h
  have hc : (gIx6 l = -1 ∧ gAt6 l = 0 ∧ gErr6 l = 0) ∨ ∃ i : Nat, gIx6 l = (i : Int) ∧ gAt6 l = (i : Int) ∧ gErr6 l = 5 := by
    unfold gIx6 gAt6 gErr6
    cases l.findIdx? bad6 with
    | none => exact Or.inl ⟨rfl, rfl, rfl⟩
    | some i => exact Or.inr ⟨i, rfl, rfl, rfl⟩
  rcases hc with ⟨e1, e2, e3⟩ | ⟨i, e1, e2, e3⟩
  · rw [e1] at hI
    rw [e2, e3]
    clear hR hW e1 e2 e3
    go_enter Try.func20, Try.ntmps20
    go_wp2_with fail
    refine (hI _ _ ((Bel.refl _).alloc _) (by rw [World.cell?_alloc_new]; rfl)).mono ?_; rintro r w2 ⟨rfl, g2⟩
    have b2 := ((Bel.refl w).alloc (Obj.cells #[Value.func (Fn.func 28) #[] #[]] 40)).trans g2
    clear hI g2
    go_wp2
    refine bodyPost_ret (by simp [results, go_sem]; try rfl) rfl ?_
    exact ⟨rfl, b2⟩
  · rw [e1] at hI
    rw [e2, e3]
    clear hR hW e1 e2 e3
    go_enter Try.func20, Try.ntmps20
    go_wp2_with fail
    refine (hI _ _ ((Bel.refl _).alloc _) (by rw [World.cell?_alloc_new]; rfl)).mono ?_; rintro r w2 ⟨rfl, g2⟩
    have b2 := ((Bel.refl w).alloc (Obj.cells #[Value.func (Fn.func 28) #[] #[]] 40)).trans g2
    clear hI g2
    go_wp2
    refine bodyPost_ret (by simp [results, go_sem]; try rfl) rfl ?_
    exact ⟨rfl, b2⟩
end Go.Proofs.Ytnclnbbnkfolgaa
