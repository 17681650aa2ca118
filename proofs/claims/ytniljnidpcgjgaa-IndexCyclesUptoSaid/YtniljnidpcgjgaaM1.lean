/- Merged texts: Base, CycP7, Own, Keep, Two, RegN, Reg8, TwoG, Step8G, StepN, RegG, RegL, Acts, StepQ, IntL, Long, WL7. -/
import Derived.WalkKit
import Derived.ProofKit
import Derived.OpenShut
import Derived.WalkLawsBesides
import Derived.Lib.Hide
import Derived.Below
import Derived.WalkSmall
import Derived.ChangeSame
import Derived.Carry
import Derived.ChangeSlices
import Derived.Orders
import Derived.Test.YtniljnidpcgjgaaProg
import Derived.Deep.RegionHeld3
/- What a call may do to the world, and a row's end; equal results. No program is named here. -/
namespace Go.Proofs.Ytniljnidpcgjgaa
open Go.RowKit

theorem ret_i64 {a b : Int} (h : a = b) : Ending.returned (.int .i64 a) = .returned (.int .i64 b) := by rw [h]
theorem ret_u64 {a b : Int} (h : a = b) : Ending.returned (.int .u64 a) = .returned (.int .u64 b) := by rw [h]
theorem ret_bool {a b : Bool} (h : a = b) : Ending.returned (.bool a) = .returned (.bool b) := by rw [h]

theorem ret_u64u64 {a b c d : Int} (h : a = b) (k : c = d) : Ending.returned (.tuple #[.int .u64 a, .int .u64 c]) = .returned (.tuple #[.int .u64 b, .int .u64 d]) := by rw [h, k]
theorem ret_i64i64 {a b c d : Int} (h : a = b) (k : c = d) : Ending.returned (.tuple #[.int .i64 a, .int .i64 c]) = .returned (.tuple #[.int .i64 b, .int .i64 d]) := by rw [h, k]
theorem ret_i64b {a b : Int} {c d : Bool} (h : a = b) (k : c = d) : Ending.returned (.tuple #[.int .i64 a, .bool c]) = .returned (.tuple #[.int .i64 b, .bool d]) := by rw [h, k]

/-! what a call may do to the world: of what was there nothing turns -/
def Bel (w w' : World) : Prop := Below w.heap.size w w'
theorem Bel.refl (w : World) : Bel w w := Below.refl _ _
theorem Bel.trans {a b c : World} (h : Bel a b) (k : Bel b c) : Bel a c := Below.trans h (Below.mono k h.size)
theorem Bel.alloc {a w : World} (h : Bel a w) (o : Obj) : Bel a (w.alloc o) := Below.alloc h h.size o
theorem Bel.drew {a w : World} (h : Bel a w) : Bel a w.drew := Below.drew h
theorem Bel.drewN {a w : World} (h : Bel a w) (n : Nat) : Bel a (w.drewN n) := below_drewN h n
theorem Bel.setCell {a w : World} (h : Bel a w) {p : Addr} (hp : a.heap.size ≤ p.block) (u : Value) : Bel a (w.setCell p u) := Below.setCell h hp u
theorem Bel.grown {a w w' : World} {row : Option Nat} (h : Bel a w) (hg : w.grownBy w' row) (hr : ∀ k, row = some k → a.heap.size ≤ k) : Bel a w' := Below.grown h hg h.size hr
theorem Bel.cell {w w' : World} (h : Bel w w') {p : Addr} (hp : p.block < w.heap.size) : w'.cell? p = w.cell? p := Below.cell h hp
theorem Bel.frozen {w w' : World} (h : Bel w w') {p : Addr} (hp : p.block < w.heap.size) : w'.frozen? p = w.frozen? p := Below.frozen h hp

/-- nothing turns but the draws -/
def Dr (w w' : World) : Prop := ∃ m, w' = w.drewN m
theorem Dr.refl (w : World) : Dr w w := ⟨0, rfl⟩
theorem Dr.trans {a b c : World} (h : Dr a b) (k : Dr b c) : Dr a c := by
  obtain ⟨m, rfl⟩ := h
  obtain ⟨n, rfl⟩ := k
  exact ⟨m + n, by simp⟩
theorem Dr.drewN {a w : World} (h : Dr a w) (n : Nat) : Dr a (w.drewN n) := h.trans ⟨n, rfl⟩
theorem Dr.drew {a w : World} (h : Dr a w) : Dr a w.drew := h.trans ⟨1, rfl⟩
theorem Dr.bel {w w' : World} (h : Dr w w') : Bel w w' := by
  obtain ⟨m, rfl⟩ := h
  exact (Bel.refl _).drewN m

/-- an owned slice lies in a block of the call's own -/
theorem ownsRow_block {w : World} {base : Nat} {e : TypeId} {size : Nat} {v : Value} {n : Nat} {xs : List Value} (h : w.ownsRow base e size v n xs) : ∀ k, v.ownBlock = some k → base ≤ k := by
  intro k hk
  rcases h.2 with ⟨rfl, _⟩ | ⟨g, cap, cur, rfl, hg, _⟩
  · simp [Value.ownBlock] at hk
  · simp [Value.ownBlock] at hk; omega

section
open Go.ChangeShapes Go.WideShapes
variable {H : Type} {enc : TypeId × Value → H} {P : Program}
/-- the row's end, where of what was there nothing has turned -/
theorem post_of_bel {f : Func} {s : ChangeSpec} {apart fresh handsOn again : Bool} {W W' : World} {args : Array Value} {v : Value} {ds gs : List (DataW H)} {before pa pv : List MemPlace}
    (hW : DataW.Whole enc P f.params.toList s.vars apart W args.toList ds gs before)
    (hres : ∀ (b : Nat) (sp : Nat → Bool) (hd : Bool), DataW.TrodAll enc P W' b sp hd f.resultTypes.toList (v.resultList f.resultTypes.size) (s.fn H (ds ++ gs)).results [])
    (hargs : ∀ sp : Nat → Bool, (∀ p ∈ before, sp p.block = true) → DataW.TrodAll enc P W' 0 sp true f.params.toList args.toList (s.fn H (ds ++ gs)).args pa)
    (hvars : ∀ sp : Nat → Bool, (∀ p ∈ before, sp p.block = true) → DataW.TrodVars enc P W' sp s.vars (s.fn H (ds ++ gs)).vars pv)
    (hps : before = pa ++ pv) (hb : Bel W W')
    (hok : ∀ (j : Nat) (t : TypeId) (r : Value), f.resultTypes[j]? = some t → (v.resultList f.resultTypes.size)[j]? = some r → Value.okWide P W' .any 0 t r) :
    s.post enc P f apart fresh handsOn again W args v W' := by
  have hlt : ∀ p ∈ before, p.block < W.heap.size := fun p hp => hW.lt p hp
  have hold : ∀ p ∈ before, (fun b => decide (b < W.heap.size)) p.block = true := fun p hp => by simpa using hlt p hp
  refine ⟨ds, gs, before, [], pa, pv, hW, hres _ _ _, hargs _ hold, hvars _ hold, World.keptBut_mono (fun p hp => ⟨hp, ?_⟩) (Below.frame hb (· ∈ before)), fun _ => ?_⟩
  · rw [hps, List.mem_append] at hp
    exact Or.inr hp
  · obtain ⟨_, _, _, _, _, hz, hn⟩ := hW
    refine ⟨hok, _, _, ([] ++ pa) ++ pv, ⟨[] ++ pa, pv, trodAll_append (hargs _ (fun _ _ => rfl)) (hres _ _ _), hvars _ (fun _ _ => rfl), rfl, ?_, ?_⟩, ?_⟩
    · intro b off hp
      have hin : MemPlace.cell b off ∈ before := by rw [hps]; simpa using hp
      rw [Below.frozen hb (hlt _ hin)]
      exact hz b off hin
    · intro ha
      have := hn ha
      rw [hps] at this
      simpa using this
    · intro p hp _
      rw [hps]
      simpa using hp
end

end Go.Proofs.Ytniljnidpcgjgaa

/- The circles of a permutation: by value. No program is named here. -/
namespace Go.Proofs.Ytniljnidpcgjgaa
set_option linter.unusedVariables false

/-- a list without repetition of numbers below n has at most n -/
theorem nodup_le : ∀ (n : Nat) (l : List Nat), l.Nodup → (∀ x ∈ l, x < n) → l.length ≤ n
  | 0, l, _, h => by
    cases l with
    | nil => exact Nat.le_refl _
    | cons x l => exact absurd (h x (List.mem_cons_self ..)) (Nat.not_lt_zero _)
  | n + 1, l, hn, h => by
    have k := nodup_le n (l.erase n) (hn.erase n) (fun x hx => by
      have h1 := (hn.mem_erase_iff).1 hx
      have h2 := h x h1.2
      omega)
    rw [List.length_erase] at k
    split at k <;> omega
/-- steps along f -/
def it (f : Nat → Nat) : Nat → Nat → Nat
  | 0, k => k
  | j + 1, k => f (it f j k)
theorem it_add (f : Nat → Nat) (i k : Nat) : ∀ j, it f (i + j) k = it f j (it f i k)
  | 0 => rfl
  | j + 1 => congrArg f (it_add f i k j)
/-- f turns the numbers below n about -/
structure Turns (f : Nat → Nat) (n : Nat) : Prop where
  lt : ∀ i, i < n → f i < n
  inj : ∀ i j, i < n → j < n → f i = f j → i = j
theorem Turns.it_lt {f : Nat → Nat} {n k : Nat} (h : Turns f n) (hk : k < n) : ∀ j, it f j k < n
  | 0 => hk
  | j + 1 => h.lt _ (h.it_lt hk j)
theorem Turns.it_inj {f : Nat → Nat} {n a b : Nat} (h : Turns f n) (ha : a < n) (hb : b < n) : ∀ j, it f j a = it f j b → a = b
  | 0, e => e
  | j + 1, e => h.it_inj ha hb j (h.inj _ _ (h.it_lt ha j) (h.it_lt hb j) e)
/-- each number comes back -/
theorem Turns.back {f : Nat → Nat} {n k : Nat} (h : Turns f n) (hk : k < n) : ∃ t, 1 ≤ t ∧ t ≤ n ∧ it f t k = k := by
  refine Classical.byContradiction fun hc => ?_
  have hne : ∀ t, 1 ≤ t → t ≤ n → it f t k ≠ k := fun t h1 h2 h3 => hc ⟨t, h1, h2, h3⟩
  have hnd : ((List.range (n + 1)).map fun j => it f j k).Nodup := by
    rw [List.nodup_iff_pairwise_ne, List.pairwise_iff_getElem]
    intro i j hi hj hij
    rw [List.length_map, List.length_range] at hi hj
    simp only [List.getElem_map, List.getElem_range]
    intro e
    have e2 : j = i + (j - i) := by omega
    rw [e2] at e
    have e3 : it f (i + (j - i)) k = it f (j - i + i) k := by rw [Nat.add_comm]
    rw [e3, it_add f (j - i) k i] at e
    exact hne (j - i) (by omega) (by omega) (h.it_inj hk (h.it_lt hk _) i e).symm
  have := nodup_le n _ hnd (fun x hx => by
    obtain ⟨j, _, rfl⟩ := List.mem_map.1 hx
    exact h.it_lt hk j)
  rw [List.length_map, List.length_range] at this
  omega
/-- t is the least time of coming back -/
def Per (f : Nat → Nat) (k t : Nat) : Prop := 1 ≤ t ∧ it f t k = k ∧ ∀ j, 1 ≤ j → j < t → it f j k ≠ k
theorem least_of {P : Nat → Prop} : ∀ n, (∃ t, t ≤ n ∧ P t) → ∃ t, t ≤ n ∧ P t ∧ ∀ j, j < t → ¬ P j
  | 0, ⟨t, h1, h2⟩ => ⟨0, Nat.le_refl _, by (have e : t = 0 := by omega); (rw [e] at h2); exact h2, fun j hj => absurd hj (Nat.not_lt_zero _)⟩
  | n + 1, ⟨t, h1, h2⟩ => by
    by_cases hc : ∃ t, t ≤ n ∧ P t
    · obtain ⟨s, a, b, c⟩ := least_of n hc
      exact ⟨s, by omega, b, c⟩
    · have : t = n + 1 := by
        refine Classical.byContradiction fun hne => hc ⟨t, by omega, h2⟩
      subst this
      exact ⟨n + 1, Nat.le_refl _, h2, fun j hj hp => hc ⟨j, by omega, hp⟩⟩
theorem Turns.per {f : Nat → Nat} {n k : Nat} (h : Turns f n) (hk : k < n) : ∃ t, t ≤ n ∧ Per f k t := by
  obtain ⟨t, h1, h2, h3⟩ := h.back hk
  obtain ⟨s, a, ⟨b, b'⟩, c⟩ := least_of (P := fun t => 1 ≤ t ∧ it f t k = k) n ⟨t, h2, h1, h3⟩
  exact ⟨s, a, b, b', fun j hj hjs e => c j hjs ⟨hj, e⟩⟩
theorem Per.unique {f : Nat → Nat} {k s t : Nat} (h : Per f k s) (h' : Per f k t) : s = t := by
  obtain ⟨a1, a2, a3⟩ := h
  obtain ⟨b1, b2, b3⟩ := h'
  rcases Nat.lt_trichotomy s t with c | c | c
  · exact absurd a2 (b3 s a1 c)
  · exact c
  · exact absurd b2 (a3 t b1 c)
theorem Per.mul {f : Nat → Nat} {k t : Nat} (h : Per f k t) : ∀ m, it f (t * m) k = k
  | 0 => rfl
  | m + 1 => by rw [Nat.mul_succ, it_add, h.mul m]; exact h.2.1
theorem Per.mod {f : Nat → Nat} {k t : Nat} (h : Per f k t) (j : Nat) : it f j k = it f (j % t) k := by
  have e := Nat.div_add_mod j t
  have e2 : it f (t * (j / t) + j % t) k = it f (j % t) k := by rw [it_add, h.mul]
  rw [e] at e2
  exact e2
/-- along the circle each one is another -/
theorem Per.inj {f : Nat → Nat} {n k t i j : Nat} (hf : Turns f n) (hk : k < n) (h : Per f k t) (hi : i < t) (hj : j < t) (e : it f i k = it f j k) : i = j := by
  have key : ∀ i j, i < j → j < t → it f i k ≠ it f j k := by
    intro i j hij hj e
    have e2 : j = (j - i) + i := by omega
    rw [e2, it_add f (j - i) k i] at e
    exact h.2.2 (j - i) (by omega) (by omega) (hf.it_inj hk (hf.it_lt hk _) i e).symm
  rcases Nat.lt_trichotomy i j with c | c | c
  · exact absurd e (key i j c hj)
  · exact c
  · exact absurd e.symm (key j i c hi)
/-- the circle of k, from k on -/
def circ (f : Nat → Nat) (k t : Nat) : List Nat := (List.range t).map fun j => it f j k
/-- all circles: each by its least number -/
def Circs (f : Nat → Nat) : Nat → List (List Nat) → Prop
  | 0, l => l = []
  | m + 1, l => ∃ l' t, Circs f m l' ∧ Per f m t ∧ ((∀ j, j < t → m ≤ it f j m) ∧ l = l' ++ [circ f m t] ∨ (∃ j, j < t ∧ it f j m < m) ∧ l = l')
theorem Circs.unique {f : Nat → Nat} : ∀ {m : Nat} {l l' : List (List Nat)}, Circs f m l → Circs f m l' → l = l'
  | 0, l, l', h, h' => h.trans h'.symm
  | m + 1, l, l', ⟨a, t, h1, h2, h3⟩, ⟨b, s, k1, k2, k3⟩ => by
    obtain rfl := h1.unique k1
    obtain rfl := h2.unique k2
    rcases h3 with ⟨c1, rfl⟩ | ⟨⟨j, j1, j2⟩, rfl⟩ <;> rcases k3 with ⟨d1, rfl⟩ | ⟨⟨i, i1, i2⟩, rfl⟩
    · rfl
    · exact absurd (c1 i i1) (by omega)
    · exact absurd (d1 j j1) (by omega)
    · rfl
/-- a number of which an earlier circle tells: it has a lesser one in its own -/
theorem Per.other {f : Nat → Nat} {n k t i : Nat} (hf : Turns f n) (hk : k < n) (h : Per f k t) : Per f (it f i k) t := by
  refine ⟨h.1, ?_, fun j hj hjt e => ?_⟩
  · rw [← it_add, Nat.add_comm, it_add, h.2.1]
  · rw [← it_add, Nat.add_comm, it_add] at e
    exact h.2.2 j hj hjt (hf.it_inj (hf.it_lt hk _) hk i e)
/-- the way back along a circle -/
theorem Per.round {f : Nat → Nat} {k t i : Nat} (h : Per f k t) (hi : i ≤ t) : it f (t - i) (it f i k) = k := by
  rw [← it_add, show i + (t - i) = t from by omega]; exact h.2.1
/-- a list of ints as a function -/
def pf (p : List Int) (i : Nat) : Nat := (p.getD i 0).toNat
def Perm7 (p : List Int) : Prop := (∀ x ∈ p, 0 ≤ x ∧ x < (p.length : Int)) ∧ p.Nodup
theorem pf_at {p : List Int} {i : Nat} (h : Perm7 p) (hi : i < p.length) : p[i]? = some ((pf p i : Nat) : Int) ∧ pf p i < p.length := by
  have e : p[i]? = some p[i] := List.getElem?_eq_getElem hi
  obtain ⟨h1, h2⟩ := h.1 p[i] (List.getElem_mem hi)
  have e2 : pf p i = p[i].toNat := by unfold pf; rw [List.getD_eq_getElem?_getD, e]; rfl
  rw [e, e2]
  exact ⟨by congr 1; omega, by omega⟩
theorem Perm7.turns {p : List Int} (h : Perm7 p) : Turns (pf p) p.length := by
  refine ⟨fun i hi => (pf_at h hi).2, fun i j hi hj e => ?_⟩
  have e1 := (pf_at h hi).1
  have e2 := (pf_at h hj).1
  rw [e] at e1
  rw [List.getElem?_eq_getElem hi] at e1
  rw [List.getElem?_eq_getElem hj] at e2
  exact (List.getElem_inj h.2).1 ((Option.some.inj e1).trans (Option.some.inj e2).symm)
end Go.Proofs.Ytniljnidpcgjgaa

/- A slice of structs of two cells that a call owns: kept by whatever turns nothing old; its cells. No program is named here. -/
namespace Go.Proofs.Ytniljnidpcgjgaa
open Go.RowKit

theorem ownsRow_bel {w w' : World} {base : Nat} {e : TypeId} {size : Nat} {v : Value} {n : Nat} {xs : List Value} (h : w.ownsRow base e size v n xs) (g : Bel w w') : w'.ownsRow base e size v n xs := by
  refine ⟨h.1, ?_⟩
  rcases h.2 with hn | ⟨b, cap, cur, rfl, hb, hgg, rest⟩
  · exact .inl hn
  · exact .inr ⟨b, cap, cur, rfl, hb, by rw [g.block b (Array.getElem?_eq_some_iff.1 hgg).1]; exact hgg, rest⟩
theorem ownsRow_form' {w : World} {base size n : Nat} {e : TypeId} {v : Value} {xs : List Value} (h : w.ownsRow base e size v n xs) : (v = .slice none 0 0 ∧ n = 0) ∨ ∃ g cap, v = .slice (some ⟨g, 0, none⟩) n cap ∧ base ≤ g ∧ g < w.heap.size ∧ n ≤ cap ∧ n ≤ maxLen := by
  rcases h.2 with hn | ⟨b, cap, cur, rfl, hb, hgg, hc, hm, rest⟩
  · exact .inl hn
  · exact .inr ⟨b, cap, rfl, hb, (Array.getElem?_eq_some_iff.1 hgg).1, hc, by omega⟩
theorem ownsRow_frozen {w : World} {base size n : Nat} {e : TypeId} {g cap : Nat} {xs : List Value} (h : w.ownsRow base e size (.slice (some ⟨g, 0, none⟩) n cap) n xs) (j : Nat) : w.frozen? ⟨g, j, none⟩ = false := by
  rcases h.2 with ⟨hn, _⟩ | ⟨b, c, cur, hv, hb, hgg, rest⟩
  · cases hn
  · injection hv with h1
    injection h1 with h1
    injection h1 with h1
    subst h1
    exact frozen_of_row _ _ j _ e hgg
end Go.Proofs.Ytniljnidpcgjgaa

/- Arguments of any types read behind a call that turns nothing old as they did; a slice of integers that came in. Over any program. -/
namespace Go.Proofs.Ytniljnidpcgjgaa
open Go.RowKit Go.ChangeShapes Go.WideShapes Go.ChangeAt

section
variable {H : Type} {enc : TypeId × Value → H} {P : Program}
/-- every argument reads as it did -/
theorem trodAll_keep (hl : laidOutB P = true) {W W' : World} (hb : Bel W W') {sp : Nat → Bool} :
    ∀ {ts : List TypeId} {vs : List Value} {ds : List (DataW H)} {ps : List MemPlace}, (ts.all fun t => P.readableRec t && decide (t < P.types.size)) = true → DataW.TrodAll enc P W 0 (fun _ => true) true ts vs ds ps → (∀ p ∈ ps, p.block < W.heap.size) → (∀ p ∈ ps, sp p.block = true) → DataW.TrodAll enc P W' 0 sp true ts vs ds ps
  | [], vs, ds, ps, _, h, _, _ => by
    obtain ⟨rfl, rfl, rfl⟩ := trodAll_nil h
    exact trodAll_mk0
  | t :: ts, vs, ds, ps, ht, h, hlt, hsp => by
    obtain ⟨v, vs', d, ds', p, q, rfl, rfl, rfl, h1, h2⟩ := trodAll_cons h
    simp only [List.all_cons, Bool.and_eq_true, decide_eq_true_eq] at ht
    refine trodAll_cons_mk (WideElems.Trod_stays hl ht.1.1 ht.1.2 h1 (fun x hx => ?_) (fun x hx => hsp x (List.mem_append_left _ hx))) (trodAll_keep hl hb (by simpa using ht.2) h2 (fun x hx => hlt x (List.mem_append_right _ hx)) fun x hx => hsp x (List.mem_append_right _ hx))
    exact Below.same hb (hlt x (List.mem_append_left _ hx))
end

/-- a slice of integers as a call reads it -/
inductive IRow (w : World) : Value → List Int → Prop
  | nil : IRow w (.slice none 0 0) []
  | none (a : Addr) (cap : Nat) : IRow w (.slice (some a) 0 cap) []
  | some (b off cap : Nat) (zs : List Int) (h0 : 0 < zs.length) (hc : zs.length ≤ cap) (hm : cap ≤ maxLen) (hb : b < w.heap.size) (hcell : ∀ (i : Nat) z, zs[i]? = Option.some z → w.cell? ⟨b, off + i, Option.none⟩ = Option.some (.int .i64 z)) : IRow w (.slice (Option.some ⟨b, off, Option.none⟩) zs.length cap) zs
theorem open_irow {H : Type} {enc : TypeId × Value → H} {P : Program} {w : World} {t e : TypeId} {v : Value} {d : DataW H} {ps : List MemPlace} {r : Reach} {b0 : Nat} (ht : P.underlying t = some (.slice e)) (he : P.underlying e = some (.int .i64)) (hc : P.cellsOf e = 1)
    (hval : Value.okWide P w r b0 t v) (h : DataW.Trod enc P w 0 (fun _ => true) true t v d ps) : ∃ zs, IRow w v zs ∧ ∀ z ∈ zs, (Lit.int .i64 z).wf = true := by
  obtain ⟨a0, len, cap, rfl⟩ := okWide_slice ht hval
  obtain ⟨fuel, hf⟩ := h
  rcases open_ints ht he hc hf with ⟨hcs, hx⟩ | ⟨a, len', cap', zs, hcs, _, hle, hmax, hall, hx, hcell, hwz⟩
  · simp [Value.cells] at hcs
    obtain ⟨rfl, rfl, rfl⟩ := hcs
    exact ⟨[], .nil, fun z hz => by cases hz⟩
  · simp [Value.cells] at hcs
    obtain ⟨rfl, rfl, rfl⟩ := hcs
    simp only [if_true] at hall
    by_cases h0 : len = 0
    · subst h0
      exact ⟨[], .none a cap, fun z hz => by cases hz⟩
    · obtain ⟨b, off, rfl, hcb⟩ := ints_at hcell (by omega)
      have hlen : (zs.take len).length = len := by rw [List.length_take]; omega
      refine ⟨zs.take len, ?_, fun z hz => hwz z (List.mem_of_mem_take hz)⟩
      have hb : b < w.heap.size := World.block_lt_of_cell? w _ (hcb 0 (by omega))
      have := IRow.some (w := w) b off cap (zs.take len) (by omega) (by omega) hmax hb (fun i z hz => by
        have hi := (List.getElem?_eq_some_iff.1 hz).1
        rw [hlen] at hi
        rw [hcb i (by omega)]
        rw [List.getElem?_take, if_pos hi] at hz
        simp [List.getD, hz])
      rw [hlen] at this
      exact this
end Go.Proofs.Ytniljnidpcgjgaa

/- A block of two floats that a call has laid: read and written. No program is named here. -/
namespace Go.Proofs.Ytniljnidpcgjgaa
open Go.RowKit

/-- a float stored -/
theorem run_store_float (P : Program) (a : Addr) (x : Nat) (m : Mode) (w : World) : (store a (.float .f64 x) m).run P w = stored P w a (.float .f64 x) m := run_store P w a _ m rfl
structure Two (w : World) (R : Nat) (a b : Nat) : Prop where
  c0 : w.cell? ⟨R, 0, none⟩ = some (.float .f64 a)
  c1 : w.cell? ⟨R, 1, none⟩ = some (.float .f64 b)
  z0 : w.frozen? ⟨R, 0, none⟩ = false
  z1 : w.frozen? ⟨R, 1, none⟩ = false
theorem Two.new (w : World) (a b : Nat) (t : TypeId) : Two (w.alloc (.cells #[.float .f64 a, .float .f64 b] t)) w.heap.size a b :=
  ⟨by rw [World.cell?_alloc_new]; rfl, by rw [World.cell?_alloc_new]; rfl, frozen_of_row _ _ 0 _ t (heap_alloc_new w _), frozen_of_row _ _ 1 _ t (heap_alloc_new w _)⟩
theorem Two.bel {w w' : World} {R a b : Nat} (h : Two w R a b) (hB : Bel w w') (hR : R < w.heap.size) : Two w' R a b :=
  ⟨(hB.cell hR).trans h.c0, (hB.cell hR).trans h.c1, (hB.frozen hR).trans h.z0, (hB.frozen hR).trans h.z1⟩
/-- the first cell written: what the second reads -/
theorem Two.mid {w : World} {R a b : Nat} (h : Two w R a b) (a' : Nat) : (w.setCell ⟨R, 0, none⟩ (.float .f64 a')).cell? ⟨R, 1, none⟩ = some (.float .f64 b) ∧ (w.setCell ⟨R, 0, none⟩ (.float .f64 a')).frozen? ⟨R, 1, none⟩ = false := by
  refine ⟨?_, by rw [World.frozen?_setCell]; exact h.z1⟩
  rw [World.cell?_setCell_other _ _ _ _ (by intro e; cases e)]
  exact h.c1
theorem Two.set {w : World} {R a b : Nat} (h : Two w R a b) (a' b' : Nat) : Two ((w.setCell ⟨R, 0, none⟩ (.float .f64 a')).setCell ⟨R, 1, none⟩ (.float .f64 b')) R a' b' := by
  obtain ⟨m1, m2⟩ := h.mid a'
  refine ⟨?_, ?_, by rw [World.frozen?_setCell, World.frozen?_setCell]; exact h.z0, by rw [World.frozen?_setCell]; exact m2⟩
  · rw [World.cell?_setCell_other _ _ _ _ (by intro e; cases e)]
    exact World.cell?_setCell_same' w _ _ (by rw [h.c0]; rfl)
  · exact World.cell?_setCell_same' _ _ _ (by rw [m1]; rfl)
end Go.Proofs.Ytniljnidpcgjgaa

/- A region that draws its order, of any number of operations, by what holds behind each set of them. Over any program. -/
namespace Go.Proofs.Ytniljnidpcgjgaa
open Go.RowKit

/-- what each operation waits for: a closed check -/
def chkN (pre : Nat → List Nat) (ops : Array Oper) : Bool :=
  (List.range ops.size).all fun i => match ops[i]? with
    | some o => (o.after.all fun e => !Region.binds .any e || decide (e.on < i)) && (pre i).all fun j => o.after.any fun e => Region.binds .any e && e.on == j
    | none => false
/-- the operations that are done -/
def doneN (l : Array Bool) (k : Nat) : Bool := l.getD k false
def undone (l : Array Bool) : Nat := l.toList.countP fun b => !b
theorem done_set {l : Array Bool} {i : Nat} (hi : i < l.size) : doneN (l.setIfInBounds i true) = fun k => doneN l k || k == i := by
  funext k
  unfold doneN
  rw [Array.getD_eq_getD_getElem?, Array.getD_eq_getD_getElem?, Array.getElem?_setIfInBounds]
  by_cases h : i = k
  · subst h
    rw [if_pos rfl, if_pos hi]
    simp
  · rw [if_neg h, show (k == i) = false from by rw [beq_eq_false_iff_ne]; exact fun e => h e.symm, Bool.or_false]
theorem countP_set {l : List Bool} {i : Nat} (h : l[i]? = some false) : (l.set i true).countP (fun b => !b) + 1 = l.countP fun b => !b := by
  induction l generalizing i with
  | nil => simp at h
  | cons b bs ih =>
    cases i with
    | zero =>
      simp at h
      subst h
      simp
    | succ i =>
      simp at h
      have := ih h
      simp only [List.set_cons_succ, List.countP_cons]
      omega
theorem undone_set {l : Array Bool} {i : Nat} (h : l[i]? = some false) : undone (l.setIfInBounds i true) + 1 = undone l := by
  unfold undone
  rw [Array.toList_setIfInBounds]
  exact countP_set (by rw [Array.getElem?_toList]; exact h)
theorem undone_zero {l : Array Bool} (h : undone l = 0) {i : Nat} (hi : i < l.size) : doneN l i = true := by
  unfold undone at h
  rw [List.countP_eq_zero] at h
  unfold doneN
  have h2 := h l[i] (by simp)
  simp at h2
  rw [Array.getD_eq_getD_getElem?, Array.getElem?_eq_getElem hi]
  simpa using h2
theorem ready_mem {ops : Array Oper} {l : Array Bool} {i : Nat} (hs : l.size = ops.size) (h : i ∈ Region.ready .any ops l) : i < ops.size ∧ l[i]? = some false ∧ ∃ o, ops[i]? = some o ∧ ∀ e ∈ o.after.toList, Region.binds .any e = true → doneN l e.on = true := by
  unfold Region.ready at h
  rw [List.mem_filter, List.mem_range, Bool.and_eq_true] at h
  obtain ⟨h1, h2, h3⟩ := h
  refine ⟨h1, ?_, ?_⟩
  · rw [Array.getD_eq_getD_getElem?, Array.getElem?_eq_getElem (by omega)] at h2
    rw [Array.getElem?_eq_getElem (by omega)]
    simpa using h2
  · rw [Array.getElem?_eq_getElem h1] at h3 ⊢
    refine ⟨_, rfl, fun e he hb => ?_⟩
    simp only [Option.map_some, Option.getD_some] at h3
    rw [← Array.all_toList, List.all_eq_true] at h3
    have := h3 e he
    rw [hb] at this
    simpa [doneN] using this
theorem ready_nil {pre : Nat → List Nat} {ops : Array Oper} {l : Array Bool} (hc : chkN pre ops = true) (hs : l.size = ops.size) (h : Region.ready .any ops l = []) : ∀ n i, i < n → i < ops.size → doneN l i = true := by
  intro n
  induction n with
  | zero => intro i h0; omega
  | succ n ih =>
    intro i hi hn
    refine Classical.byContradiction fun hd => ?_
    have hm : i ∈ Region.ready .any ops l := by
      unfold Region.ready
      rw [List.mem_filter, List.mem_range, Bool.and_eq_true]
      refine ⟨hn, ?_, ?_⟩
      · unfold doneN at hd
        rw [Array.getD_eq_getD_getElem?, Array.getElem?_eq_getElem (by omega)] at hd
        rw [Array.getD_eq_getD_getElem?, Array.getElem?_eq_getElem (by omega)]
        simpa using hd
      · unfold chkN at hc
        rw [List.all_eq_true] at hc
        have h2 := hc i (List.mem_range.2 hn)
        rw [Array.getElem?_eq_getElem hn] at h2 ⊢
        simp only [Bool.and_eq_true] at h2
        simp only [Option.map_some, Option.getD_some]
        rw [← Array.all_toList, List.all_eq_true] at h2 ⊢
        intro e he
        have h3 := h2.1 e he
        rw [Bool.or_eq_true] at h3 ⊢
        refine h3.imp id fun h3 => ?_
        rw [decide_eq_true_eq] at h3
        exact ih e.on (by omega) (by omega)
    rw [h] at hm
    exact absurd hm (by simp)
theorem wpAnyN {P : Program} {ops : Array Oper} {Q : Exit → Act → World → Prop} {pre : Nat → List Nat} (hc : chkN pre ops = true) (I : (Nat → Bool) → Act → World → Prop)
    (hstep : ∀ D a w i, i < ops.size → D i = false → (∀ j ∈ pre i, D j = true) → I D a w → wpOp P ops Q i (fun a' w' => I (fun k => D k || k == i) a' w') a w)
    (hend : ∀ D a w, (∀ i, i < ops.size → D i = true) → I D a w → Q .normal a w) : ∀ (fuel : Nat) (l : Array Bool) (a : Act) (w : World), l.size = ops.size → undone l = fuel → I (doneN l) a w → wpAny P .any ops Q fuel l a w := by
  intro fuel
  induction fuel with
  | zero =>
    intro l a w hs hu hI
    refine ⟨?_, hend _ a w (fun i hi => undone_zero hu (by omega)) hI⟩
    cases hr : Region.ready .any ops l with
    | nil => rfl
    | cons i is =>
      exfalso
      obtain ⟨h1, h2, _⟩ := ready_mem (i := i) hs (by rw [hr]; exact List.mem_cons_self ..)
      have h3 := undone_zero hu (i := i) (by omega)
      unfold doneN at h3
      rw [Array.getD_eq_getD_getElem?, h2] at h3
      simp at h3
  | succ fuel ih =>
    intro l a w hs hu hI
    refine ⟨fun hn => hend _ a w (fun i hi => ready_nil hc hs hn (i + 1) i (by omega) hi) hI, fun i hi => ?_⟩
    obtain ⟨h1, h2, o, ho, h3⟩ := ready_mem hs hi
    have hd : doneN l i = false := by
      unfold doneN
      rw [Array.getD_eq_getD_getElem?, h2]; rfl
    refine wpOp_mono (fun a' w' hI' => ih _ a' w' (by simpa using hs) (by have := undone_set h2; omega) (by rw [done_set (by omega)]; exact hI')) (hstep _ a w i h1 hd (fun j hj => ?_) hI)
    unfold chkN at hc
    rw [List.all_eq_true] at hc
    have h4 := hc i (List.mem_range.2 h1)
    rw [ho] at h4
    simp only [Bool.and_eq_true] at h4
    have h5 := List.all_eq_true.1 h4.2 j hj
    rw [← Array.any_toList, List.any_eq_true] at h5
    obtain ⟨e, he, h6⟩ := h5
    rw [Bool.and_eq_true, beq_iff_eq] at h6
    rw [← h6.2]
    exact h3 e he h6.1
theorem wp_region_set {P : Program} {ops : Array Oper} {Q : Exit → Act → World → Prop} {pre : Nat → List Nat} {id : Nat} {a : Act} {w : World} (hm : P.follows .mixedOrders = true) (hc : chkN pre ops = true) (I : (Nat → Bool) → Act → World → Prop)
    (h0 : I (fun _ => false) a { w with drawn := w.drawn + 1 })
    (hstep : ∀ D a w i, i < ops.size → D i = false → (∀ j ∈ pre i, D j = true) → I D a w → wpOp P ops Q i (fun a' w' => I (fun k => D k || k == i) a' w') a w)
    (hend : ∀ D a w, (∀ i, i < ops.size → D i = true) → I D a w → Q .normal a w) : (Code.region id ops true).wp P Q a w := by
  refine wp_region_any hm ?_
  refine wpAnyN hc I hstep hend ops.size _ a _ (by simp) ?_ ?_
  · unfold undone
    simp [List.countP_replicate]
  · have e : doneN (Array.replicate ops.size false) = fun _ => false := by
      funext k
      unfold doneN
      rw [Array.getD_eq_getD_getElem?]
      by_cases h : k < ops.size
      · rw [Array.getElem?_eq_getElem (by simpa using h)]; simp
      · rw [Array.getElem?_eq_none (by simpa using h)]; rfl
    rw [e]
    exact h0
end Go.Proofs.Ytniljnidpcgjgaa

/- A region of eight operations that draws its order, by what holds behind each set of them. Over any program. -/
namespace Go.Proofs.Ytniljnidpcgjgaa
open Go.RowKit

def L8 (m : Nat) : Array Bool := #[m.testBit 0, m.testBit 1, m.testBit 2, m.testBit 3, m.testBit 4, m.testBit 5, m.testBit 6, m.testBit 7]
def pop8 (m : Nat) : Nat := (m.testBit 0).toNat + (m.testBit 1).toNat + (m.testBit 2).toNat + (m.testBit 3).toNat + (m.testBit 4).toNat + (m.testBit 5).toNat + (m.testBit 6).toNat + (m.testBit 7).toNat
/-- what may come up behind each set: a closed check -/
def chk8 (pre : Nat → Nat) (md : Region.Mode) (ops : Array Oper) : Bool :=
  (List.range 256).all fun m => ((Region.ready md ops (L8 m)).all fun i => decide (i < 8) && !m.testBit i && ((m &&& pre i) == pre i)) && (!(Region.ready md ops (L8 m)).isEmpty || m == 255)
theorem set8 : ∀ m, m < 256 → ∀ i, i < 8 → m.testBit i = false → ((L8 m).setIfInBounds i true = L8 (m ||| 2 ^ i) ∧ (m ||| 2 ^ i) < 256 ∧ pop8 (m ||| 2 ^ i) = pop8 m + 1) := by decide +kernel
theorem full8 : ∀ m, m < 256 → pop8 m = 8 → m = 255 := by decide +kernel
theorem zero8 : L8 0 = Array.replicate 8 false ∧ pop8 0 = 0 := by decide +kernel
theorem full_ready {md : Region.Mode} {pre : Nat → Nat} {ops : Array Oper} (h : chk8 pre md ops = true) : Region.ready md ops (L8 255) = [] := by
  unfold chk8 at h
  rw [List.all_eq_true] at h
  have := h 255 (by simp)
  rw [Bool.and_eq_true, List.all_eq_true] at this
  cases hr : Region.ready md ops (L8 255) with
  | nil => rfl
  | cons i is =>
    exfalso
    have h1 := this.1 i (by rw [hr]; exact List.mem_cons_self ..)
    simp only [Bool.and_eq_true, decide_eq_true_eq, Bool.not_eq_true'] at h1
    have h2 : ∀ i, i < 8 → Nat.testBit 255 i = true := by decide
    rw [h2 i h1.1.1] at h1
    exact absurd h1.1.2 (by decide)
theorem wpAny8 {P : Program} {md : Region.Mode} {ops : Array Oper} {Q : Exit → Act → World → Prop} {pre : Nat → Nat} (h : chk8 pre md ops = true) (I : Nat → Act → World → Prop)
    (hstep : ∀ m a w i, m < 256 → i < 8 → m.testBit i = false → (m &&& pre i) = pre i → I m a w → wpOp P ops Q i (fun a' w' => I (m ||| 2 ^ i) a' w') a w)
    (hend : ∀ a w, I 255 a w → Q .normal a w) : ∀ (fuel m : Nat) (a : Act) (w : World), m < 256 → pop8 m + fuel = 8 → I m a w → wpAny P md ops Q fuel (L8 m) a w := by
  intro fuel
  induction fuel with
  | zero =>
    intro m a w hm hp hI
    have e := full8 m hm (by omega)
    subst e
    exact ⟨full_ready h, hend a w hI⟩
  | succ fuel ih =>
    intro m a w hm hp hI
    have hc := h
    unfold chk8 at hc
    rw [List.all_eq_true] at hc
    have hcm := hc m (by simpa using hm)
    rw [Bool.and_eq_true, List.all_eq_true, Bool.or_eq_true] at hcm
    refine ⟨fun hn => ?_, fun i hi => ?_⟩
    · have e : m = 255 := by
        rcases hcm.2 with k | k
        · rw [hn] at k; exact absurd k (by decide)
        · exact beq_iff_eq.mp k
      subst e
      exact hend a w hI
    · have h1 := hcm.1 i hi
      simp only [Bool.and_eq_true, decide_eq_true_eq, Bool.not_eq_true', beq_iff_eq] at h1
      obtain ⟨s1, s2, s3⟩ := set8 m hm i h1.1.1 h1.1.2
      rw [s1]
      exact wpOp_mono (fun a' w' hI' => ih _ a' w' s2 (by omega) hI') (hstep m a w i hm h1.1.1 h1.1.2 h1.2 hI)
theorem wp_region8 {P : Program} {ops : Array Oper} {Q : Exit → Act → World → Prop} {pre : Nat → Nat} {id : Nat} {a : Act} {w : World} (hm : P.follows .mixedOrders = true) (hsz : ops.size = 8) (h : chk8 pre .any ops = true) (I : Nat → Act → World → Prop)
    (h0 : I 0 a { w with drawn := w.drawn + 1 })
    (hstep : ∀ m a w i, m < 256 → i < 8 → m.testBit i = false → (m &&& pre i) = pre i → I m a w → wpOp P ops Q i (fun a' w' => I (m ||| 2 ^ i) a' w') a w)
    (hend : ∀ a w, I 255 a w → Q .normal a w) : (Code.region id ops true).wp P Q a w := by
  refine wp_region_any hm ?_
  rw [hsz, ← zero8.1]
  exact wpAny8 h I hstep hend 8 0 a _ (by decide) (by rw [zero8.2]) h0
theorem wpOp_go {P : Program} {ops : Array Oper} {Q : Exit → Act → World → Prop} {i : Nat} {o : Oper} {a : Act} {w : World} {K : Act → World → Prop} (ho : ops[i]? = some o) (hg : o.guard = none) (h : Oper.wp P o a w K Q) : wpOp P ops Q i K a w := by
  unfold wpOp
  simp only [ho]
  have hw : Region.wanted o (yielded ops a.tmps) = true := by simp [Region.wanted, hg]
  rw [if_pos hw]
  exact Or.inl h
end Go.Proofs.Ytniljnidpcgjgaa

/- Blocks of two floats: what is kept. No program is named here. -/
namespace Go.Proofs.Ytniljnidpcgjgaa
open Go.RowKit

theorem Two.newN (w : World) (a b : Nat) (t : TypeId) (N : Nat) (h : N = w.heap.size) : Two (w.alloc (.cells #[.float .f64 a, .float .f64 b] t)) N a b := h ▸ Two.new w a b t
theorem Two.lt {w : World} {R a b : Nat} (h : Two w R a b) : R < w.heap.size := World.block_lt_of_cell? w _ h.c0
theorem Two.al {w : World} {R a b : Nat} (h : Two w R a b) (o : Obj) : Two (w.alloc o) R a b := h.bel ((Bel.refl w).alloc o) h.lt
theorem Two.dr {w : World} {R a b : Nat} (h : Two w R a b) : Two w.drew R a b := ⟨h.c0, h.c1, h.z0, h.z1⟩
theorem Two.by {w w' : World} {R a b : Nat} (g : Bel w w') (h : Two w R a b) : Two w' R a b := h.bel g h.lt
theorem Two.so {w : World} {R X a b : Nat} (hne : R ≠ X) (h : Two w R a b) (u v : Value) : Two ((w.setCell ⟨X, 0, none⟩ u).setCell ⟨X, 1, none⟩ v) R a b := by
  have k : ∀ (i j : Nat), (⟨X, i, none⟩ : Addr) ≠ ⟨R, j, none⟩ := fun i j e => by cases e; exact hne rfl
  refine ⟨?_, ?_, by rw [World.frozen?_setCell, World.frozen?_setCell]; exact h.z0, by rw [World.frozen?_setCell, World.frozen?_setCell]; exact h.z1⟩
  · rw [World.cell?_setCell_other _ _ _ _ (k _ _), World.cell?_setCell_other _ _ _ _ (k _ _)]; exact h.c0
  · rw [World.cell?_setCell_other _ _ _ _ (k _ _), World.cell?_setCell_other _ _ _ _ (k _ _)]; exact h.c1
end Go.Proofs.Ytniljnidpcgjgaa

/- One operation of a drawn region at a time: a load, a call. -/
namespace Go.Proofs.Ytniljnidpcgjgaa
open Go.RowKit

theorem step_load {o : Oper} {d : Option Nat} {a : Act} {w : World} {K : Act → World → Prop} {Q : Exit → Act → World → Prop} {t : TypeId} {s : Operand} {p v : Value} (hd : o.dst = d) (hop : o.op = .load t s) (hs : a.eval s = p)
    (hrun : (Instr.loadAt t p).run Try.prog w = .ok v w) (hK : K (a.put d v) w) : Oper.wp Try.prog o a w K Q := by
  subst hd
  unfold Oper.wp
  simp [execOp, hop, hs, hrun]
  exact hK
theorem step_call {o : Oper} {d : Option Nat} {a : Act} {w : World} {K : Act → World → Prop} {Q : Exit → Act → World → Prop} {f : FuncId} {s : Nat} {t : TypeId} {v : Value} (hd : o.dst = d) (hop : o.op = .call { callee := .value (.func f), args := #[.tmp s], argTypes := #[t] }) (hs : a.eval (.tmp s) = v)
    (hrun : (callFunc f #[v]).run Try.prog w = .ok (.enter f #[v]) w)
    (hC : Calls Try.prog f #[v] w fun r w' => ∃ y, r = .returned y ∧ K (a.put d y) w') : Oper.wp Try.prog o a w K Q := by
  subst hd
  have hs2 : a.tmps[s]?.getD undef = v := by simpa [Act.eval, go_sem] using hs
  unfold Oper.wp
  simp [execOp, hop, hs2, hrun, go_sem]
  try rw [Oper.upon_enter]
  refine hC.mono ?_
  rintro r w' ⟨y, rfl, hK⟩
  exact hK
end Go.Proofs.Ytniljnidpcgjgaa

/- One operation of a drawn region at a time, and regions that only read: what each operation leaves is just a value. -/
namespace Go.Proofs.Ytniljnidpcgjgaa
open Go.RowKit

/-- one more temporary -/
def tset (f : Nat → Value) (t : Nat) (v : Value) : Nat → Value := fun s => if s = t then v else f s
theorem tset_self (f : Nat → Value) (t : Nat) (v : Value) : tset f t v t = v := if_pos rfl
theorem tset_ne (f : Nat → Value) {t s : Nat} (v : Value) (h : s ≠ t) : tset f t v s = f s := if_neg h
theorem step_val {P : Program} {o : Oper} {d : Option Nat} {a : Act} {w : World} {K : Act → World → Prop} {Q : Exit → Act → World → Prop} {v : Value} (hd : o.dst = d) (hrun : (execOp a.eval o).run P w = .ok (.value v) w) (hK : K (a.put d v) w) : Oper.wp P o a w K Q := by
  subst hd
  unfold Oper.wp
  rw [hrun]
  exact hK
theorem step_call2 {o : Oper} {d : Option Nat} {a : Act} {w : World} {K : Act → World → Prop} {Q : Exit → Act → World → Prop} {f : FuncId} {s s' : Nat} {t t' : TypeId} {v v' : Value} (hd : o.dst = d) (hop : o.op = .call { callee := .value (.func f), args := #[.tmp s, .tmp s'], argTypes := #[t, t'] }) (hs : a.eval (.tmp s) = v) (hs' : a.eval (.tmp s') = v')
    (hrun : (callFunc f #[v, v']).run Try.prog w = .ok (.enter f #[v, v']) w)
    (hC : Calls Try.prog f #[v, v'] w fun r w' => ∃ y, r = .returned y ∧ K (a.put d y) w') : Oper.wp Try.prog o a w K Q := by
  subst hd
  have hs2 : a.tmps[s]?.getD undef = v := by simpa [Act.eval, go_sem] using hs
  have hs3 : a.tmps[s']?.getD undef = v' := by simpa [Act.eval, go_sem] using hs'
  unfold Oper.wp
  simp [execOp, hop, hs2, hs3, hrun, go_sem]
  try rw [Oper.upon_enter]
  refine hC.mono ?_
  rintro r w' ⟨y, rfl, hK⟩
  exact hK
/-- what operations leave that are just a value -/
def CV (cs : List (Nat × Nat × Value)) (D : Nat → Bool) (f : Nat → Value) : Prop := ∀ c ∈ cs, D c.1 = true → f c.2.1 = c.2.2
theorem dn {D : Nat → Bool} {i k : Nat} (hk : k ≠ i) (h : (D k || k == i) = true) : D k = true := by
  rw [Bool.or_eq_true, beq_iff_eq] at h
  exact h.resolve_right hk
theorem dup {D : Nat → Bool} {i k : Nat} (h : D k = true) : (D k || k == i) = true := by rw [h]; rfl
theorem CV.other {cs : List (Nat × Nat × Value)} {D : Nat → Bool} {f : Nat → Value} (h : CV cs D f) (i t : Nat) (v : Value) (hi : ∀ c ∈ cs, c.1 ≠ i ∧ c.2.1 ≠ t) : CV cs (fun k => D k || k == i) (tset f t v) := fun c hc hd => by
  rw [tset_ne _ _ (hi c hc).2]
  exact h c hc (dn (hi c hc).1 hd)
theorem CV.none {cs : List (Nat × Nat × Value)} {D : Nat → Bool} {f : Nat → Value} (h : CV cs D f) (i : Nat) (hi : ∀ c ∈ cs, c.1 ≠ i) : CV cs (fun k => D k || k == i) f := fun c hc hd => h c hc (dn (hi c hc) hd)
theorem CV.self {cs : List (Nat × Nat × Value)} {D : Nat → Bool} {f : Nat → Value} (h : CV cs D f) (i t : Nat) (v : Value) (hi : ∀ c ∈ cs, (c.1 = i ∧ c.2.1 = t ∧ c.2.2 = v) ∨ (c.1 ≠ i ∧ c.2.1 ≠ t)) : CV cs (fun k => D k || k == i) (tset f t v) := fun c hc hd => by
  rcases hi c hc with ⟨_, h2, h3⟩ | ⟨h1, h2⟩
  · rw [h2, h3, tset_self]
  · rw [tset_ne _ _ h2]
    exact h c hc (dn h1 hd)
theorem step_field {o : Oper} {d : Option Nat} {a : Act} {w : World} {K : Act → World → Prop} {Q : Exit → Act → World → Prop} {t : TypeId} {s : Operand} {j : Nat} {p v : Value} (hd : o.dst = d) (hop : o.op = .fieldAddr t s j) (hs : a.eval s = p)
    (hrun : (Instr.fieldAt t p j).run Try.prog w = .ok v w) (hK : K (a.put d v) w) : Oper.wp Try.prog o a w K Q := by
  subst hd
  unfold Oper.wp
  simp [execOp, hop, hs, hrun]
  exact hK
theorem step_move {P : Program} {o : Oper} {d : Option Nat} {a : Act} {w : World} {K : Act → World → Prop} {Q : Exit → Act → World → Prop} {s : Operand} {v : Value} (hd : o.dst = d) (hop : o.op = .move s ∨ o.op = .assign s) (hs : a.eval s = v) (hK : K (a.put d v) w) : Oper.wp P o a w K Q := by
  subst hd hs
  unfold Oper.wp
  rcases hop with hop | hop <;> simp [execOp, hop] <;> exact hK
theorem step_extract {P : Program} {o : Oper} {d : Option Nat} {a : Act} {w : World} {K : Act → World → Prop} {Q : Exit → Act → World → Prop} {s : Operand} {j : Nat} {vs : Array Value} {v : Value} (hd : o.dst = d) (hop : o.op = .extract s j) (hs : a.eval s = .tuple vs) (hv : vs[j]? = some v) (hK : K (a.put d v) w) : Oper.wp P o a w K Q := by
  subst hd
  unfold Oper.wp
  have hrun : (Instr.extract (.tuple vs) j).run P w = .ok v w := by simp [Instr.extract, hv, go_sem]
  simp [execOp, hop, hs, hrun]
  exact hK
theorem step_call1 {o : Oper} {d : Option Nat} {a : Act} {w : World} {K : Act → World → Prop} {Q : Exit → Act → World → Prop} {f : FuncId} {s : Nat} {t : TypeId} {v : Value} (hd : o.dst = d) (hop : o.op = .call { callee := .value (.func f), args := #[.tmp s], argTypes := #[t] }) (hs : a.eval (.tmp s) = v)
    (hrun : (callFunc f #[v]).run Try.prog w = .ok (.enter f #[v]) w)
    (hC : Calls Try.prog f #[v] w fun r w' => ∃ y, r = .returned y ∧ K (a.put d y) w') : Oper.wp Try.prog o a w K Q := step_call hd hop hs hrun hC
theorem nodup_one {α : Type} {g : α → Nat} : ∀ {l : List α}, (l.map g).Nodup → ∀ c ∈ l, ∀ c' ∈ l, g c = g c' → c = c' := by
  intro l
  induction l with
  | nil => intro _ c hc; cases hc
  | cons x xs ih =>
    intro hn c hc c' hc' he
    rw [List.map_cons, List.nodup_cons] at hn
    rcases List.mem_cons.1 hc with rfl | h1
    · rcases List.mem_cons.1 hc' with rfl | h2
      · rfl
      · exact absurd (he ▸ List.mem_map_of_mem h2) hn.1
    · rcases List.mem_cons.1 hc' with rfl | h2
      · exact absurd (he.symm ▸ List.mem_map_of_mem h1) hn.1
      · exact ih hn.2 c h1 c' h2 he
/-- a region that draws its order and only reads: each operation's value is known -/
theorem wp_region_cv {P : Program} {ops : Array Oper} {Q : Exit → Act → World → Prop} {pre : Nat → List Nat} {id : Nat} {w : World} (act : (Nat → Value) → Act) (f0 : Nat → Value) (hm : P.follows .mixedOrders = true) (hc : chkN pre ops = true) (cs : List (Nat × Nat × Value)) (h1 : (cs.map (·.1)).Nodup) (h2 : (cs.map (·.2.1)).Nodup)
    (hs : ∀ i, i < ops.size → ∃ t v, (i, t, v) ∈ cs ∧ ∀ f, (∀ c ∈ cs, c.1 ∈ pre i → f c.2.1 = c.2.2) → wpOp P ops Q i (fun a' w' => a' = act (tset f t v) ∧ w' = w.drew) (act f) w.drew)
    (hQ : ∀ f, (∀ c ∈ cs, f c.2.1 = c.2.2) → Q .normal (act f) w.drew) (hsz : ∀ c ∈ cs, c.1 < ops.size) : (Code.region id ops true).wp P Q (act f0) w := by
  refine wp_region_set (pre := pre) hm hc (fun D a w' => ∃ f, a = act f ∧ w' = w.drew ∧ CV cs D f) ⟨f0, rfl, rfl, fun _ _ h => absurd h Bool.false_ne_true⟩ ?_ ?_
  · rintro D a w' i hi hD hp ⟨f, rfl, rfl, hI⟩
    obtain ⟨t, v, hmem, hw⟩ := hs i hi
    refine wpOp_mono ?_ (hw f fun c hc hj => hI c hc (hp _ hj))
    rintro a' w' ⟨rfl, rfl⟩
    refine ⟨_, rfl, rfl, hI.self i t v fun c hc => ?_⟩
    by_cases h : c.1 = i
    · have := nodup_one h1 c hc _ hmem h
      subst this
      exact Or.inl ⟨rfl, rfl, rfl⟩
    · refine Or.inr ⟨h, fun ht => h ?_⟩
      have := nodup_one h2 c hc _ hmem ht
      rw [this]
  · rintro D a w' hD ⟨f, rfl, rfl, hI⟩
    exact hQ f fun c hc => hI c hc (hD _ (hsz c hc))
/-- two floats of which something holds -/
def PairV (P : Nat → Nat → Prop) (v : Value) : Prop := ∃ s e, v = .agg #[.float .f64 s, .float .f64 e] ∧ P s e
/-- a new block of two floats; once stored, what is stored -/
def BlkV (w1 w : World) (done : Prop) (p v : Value) : Prop := ∃ X α β, p = .pointer (some ⟨X, 0, none⟩) ∧ w1.heap.size ≤ X ∧ Two w X α β ∧ (done → v = .agg #[.float .f64 α, .float .f64 β])
theorem BlkV.mk0 (w1 w : World) {ty : TypeId} {done : Prop} (v : Value) (hB : Bel w1 w) (hd : ¬ done) : BlkV w1 (w.alloc (.cells #[.float .f64 0, .float .f64 0] ty)) done (.pointer (some ⟨w.heap.size, 0, none⟩)) v :=
  ⟨w.heap.size, 0, 0, rfl, hB.size, Two.new .., fun h => absurd h hd⟩
theorem BlkV.imp {w1 w : World} {d d' : Prop} {p v : Value} (h : BlkV w1 w d p v) (hd : d' → d) : BlkV w1 w d' p v := by
  obtain ⟨X, α, β, h1, h2, h3, h4⟩ := h
  exact ⟨X, α, β, h1, h2, h3, fun h => h4 (hd h)⟩
theorem BlkV.bel {w1 w w' : World} {d : Prop} {p v : Value} (h : BlkV w1 w d p v) (g : Bel w w') : BlkV w1 w' d p v := by
  obtain ⟨X, α, β, h1, h2, h3, h4⟩ := h
  exact ⟨X, α, β, h1, h2, h3.by g, h4⟩
theorem BlkV.turn {w1 w : World} {d : Prop} {p v v' : Value} (h : BlkV w1 w d p v) (hd : ¬ d) : BlkV w1 w d p v' := by
  obtain ⟨X, α, β, h1, h2, h3, h4⟩ := h
  exact ⟨X, α, β, h1, h2, h3, fun h => absurd h hd⟩
theorem BlkV.fresh {w1 w : World} {d : Prop} {p v : Value} (h : BlkV w1 w d p v) : p ≠ .pointer (some ⟨w.heap.size, 0, none⟩) := by
  obtain ⟨X, α, β, h1, h2, h3, h4⟩ := h
  have := h3.lt
  rw [h1]
  intro e
  cases e
  omega
theorem BlkV.so {w1 w : World} {d : Prop} {p v : Value} {X : Nat} (h : BlkV w1 w d p v) (hne : p ≠ .pointer (some ⟨X, 0, none⟩)) (a b : Value) : BlkV w1 ((w.setCell ⟨X, 0, none⟩ a).setCell ⟨X, 1, none⟩ b) d p v := by
  obtain ⟨Y, α, β, h1, h2, h3, h4⟩ := h
  exact ⟨Y, α, β, h1, h2, h3.so (fun e => hne (by rw [h1, e])) _ _, h4⟩
end Go.Proofs.Ytniljnidpcgjgaa

/- A region that draws its order, of calls, reads and new blocks of two floats: by what each operation leaves. -/
namespace Go.Proofs.Ytniljnidpcgjgaa
open Go.RowKit

/-- a new block: the operation that makes it, its temporary, the operation that fills it, the temporary that is stored and the operation that leaves it -/
structure Blk where
  a : Nat
  p : Nat
  s : Nat
  v : Nat
  vo : Nat
/-- what operations leave: the operation, its temporary, what holds of the value -/
abbrev Leaves := List (Nat × Nat × (Value → Prop))
def GV (ps : Leaves) (D : Nat → Bool) (f : Nat → Value) : Prop := ∀ c ∈ ps, D c.1 = true → c.2.2 (f c.2.1)
structure RegI (ps : Leaves) (bs : List Blk) (w1 : World) (D : Nat → Bool) (f : Nat → Value) (w : World) : Prop where
  bel : Bel w1 w
  gv : GV ps D f
  bk : ∀ b ∈ bs, D b.a = true → BlkV w1 w (D b.s = true) (f b.p) (f b.v)
  ne : ∀ b ∈ bs, ∀ b' ∈ bs, b.a ≠ b'.a → D b.a = true → D b'.a = true → f b.p ≠ f b'.p
  o : ∀ b ∈ bs, D b.s = true → D b.a = true ∧ D b.vo = true
/-- operations and temporaries are apart: closed checks -/
structure Apart (ps : Leaves) (bs : List Blk) : Prop where
  n1 : (ps.map (·.1)).Nodup
  n2 : (ps.map (·.2.1)).Nodup
  n3 : (bs.map (·.a)).Nodup
  n4 : (bs.map (·.p)).Nodup
  n5 : (bs.map (·.s)).Nodup
  x : ∀ c ∈ ps, ∀ b ∈ bs, c.1 ≠ b.a ∧ c.1 ≠ b.s ∧ c.2.1 ≠ b.p
  y : ∀ b ∈ bs, ∀ b' ∈ bs, b.a ≠ b'.s
  z : ∀ b ∈ bs, ∃ φ, (b.vo, b.v, φ) ∈ ps
section
variable {ps : Leaves} {bs : List Blk} {w1 : World} {D : Nat → Bool} {f : Nat → Value} {w : World}
theorem Apart.one (h : Apart ps bs) {c c' : Nat × Nat × (Value → Prop)} (hc : c ∈ ps) (hc' : c' ∈ ps) (e : c.1 = c'.1) : c = c' := nodup_one h.n1 c hc c' hc' e
theorem Apart.tmp (h : Apart ps bs) {c c' : Nat × Nat × (Value → Prop)} (hc : c ∈ ps) (hc' : c' ∈ ps) (e : c.2.1 = c'.2.1) : c = c' := nodup_one h.n2 c hc c' hc' e
theorem RegI.value (hA : Apart ps bs) (h : RegI ps bs w1 D f w) {i t : Nat} {φ : Value → Prop} (hm : (i, t, φ) ∈ ps) (hD : D i = false) {v : Value} (hv : φ v) {w' : World} (g : Bel w w') : RegI ps bs w1 (fun k => D k || k == i) (tset f t v) w' := by
  have na : ∀ b ∈ bs, b.a ≠ i := fun b hb e => (hA.x _ hm b hb).1 e.symm
  have ns : ∀ b ∈ bs, b.s ≠ i := fun b hb e => (hA.x _ hm b hb).2.1 e.symm
  have np : ∀ b ∈ bs, b.p ≠ t := fun b hb e => (hA.x _ hm b hb).2.2 e.symm
  refine ⟨h.bel.trans g, fun c hc hd => ?_, fun b hb hd => ?_, fun b hb b' hb' hne hd hd' => ?_, fun b hb hd => (h.o b hb (dn (ns b hb) hd)).imp dup dup⟩
  · by_cases e : c.1 = i
    · have := hA.one hc hm e
      subst this
      rw [tset_self]
      exact hv
    · rw [tset_ne _ _ (fun e2 => e (by rw [hA.tmp hc hm e2]))]
      exact h.gv c hc (dn e hd)
  · have hb1 := (h.bk b hb (dn (na b hb) hd)).bel g
    rw [tset_ne _ _ (np b hb)]
    by_cases e : b.v = t
    · obtain ⟨φ', hz⟩ := hA.z b hb
      have e2 := hA.tmp hz hm e
      have e3 : b.vo = i := congrArg (·.1) e2
      have hns : ¬ D b.s = true := fun hs => by
        have := (h.o b hb hs).2
        rw [e3, hD] at this
        exact Bool.false_ne_true this
      exact (hb1.turn hns).imp (dn (ns b hb))
    · rw [tset_ne _ _ e]
      exact hb1.imp (dn (ns b hb))
  · rw [tset_ne _ _ (np b hb), tset_ne _ _ (np b' hb')]
    exact h.ne b hb b' hb' hne (dn (na b hb) hd) (dn (na b' hb') hd')
theorem RegI.alloc (hA : Apart ps bs) (h : RegI ps bs w1 D f w) {b : Blk} (hb : b ∈ bs) (hD : D b.a = false) (ty : TypeId) : RegI ps bs w1 (fun k => D k || k == b.a) (tset f b.p (.pointer (some ⟨w.heap.size, 0, none⟩))) (w.alloc (.cells #[.float .f64 0, .float .f64 0] ty)) := by
  have hns : ¬ D b.s = true := fun hs => by
    have := (h.o b hb hs).1
    rw [hD] at this
    exact Bool.false_ne_true this
  have nv : ∀ b' ∈ bs, b'.v ≠ b.p := fun b' hb' e => by
    obtain ⟨φ', hz⟩ := hA.z b' hb'
    exact (hA.x _ hz b hb).2.2 e
  have ns : ∀ b' ∈ bs, b'.s ≠ b.a := fun b' hb' e => hA.y b hb b' hb' e.symm
  have np : ∀ b' ∈ bs, b'.a ≠ b.a → b'.p ≠ b.p := fun b' hb' e e2 => e (by rw [nodup_one hA.n4 b' hb' b hb e2])
  have g : Bel w (w.alloc (.cells #[.float .f64 0, .float .f64 0] ty)) := (Bel.refl w).alloc _
  refine ⟨h.bel.trans g, fun c hc hd => ?_, fun b' hb' hd => ?_, fun b' hb' b'' hb'' hne hd hd' => ?_, fun b' hb' hd => (h.o b' hb' (dn (ns b' hb') hd)).imp dup dup⟩
  · rw [tset_ne _ _ (hA.x c hc b hb).2.2]
    exact h.gv c hc (dn (hA.x c hc b hb).1 hd)
  · rw [tset_ne _ _ (nv b' hb')]
    by_cases e : b'.a = b.a
    · have := nodup_one hA.n3 b' hb' b hb e
      subst this
      rw [tset_self]
      exact ⟨w.heap.size, 0, 0, rfl, h.bel.size, Two.new .., fun hs => absurd (dn (ns b' hb') hs) hns⟩
    · rw [tset_ne _ _ (np b' hb' e)]
      exact ((h.bk b' hb' (dn e hd)).bel g).imp (dn (ns b' hb'))
  · by_cases e : b'.a = b.a
    · have := nodup_one hA.n3 b' hb' b hb e
      subst this
      have e2 : b''.a ≠ b'.a := fun e2 => hne e2.symm
      rw [tset_self, tset_ne _ _ (np b'' hb'' e2)]
      exact (h.bk b'' hb'' (dn e2 hd')).fresh.symm
    · by_cases e2 : b''.a = b.a
      · have := nodup_one hA.n3 b'' hb'' b hb e2
        subst this
        rw [tset_self, tset_ne _ _ (np b' hb' e)]
        exact (h.bk b' hb' (dn e hd)).fresh
      · rw [tset_ne _ _ (np b' hb' e), tset_ne _ _ (np b'' hb'' e2)]
        exact h.ne b' hb' b'' hb'' hne (dn e hd) (dn e2 hd')
theorem RegI.store (hA : Apart ps bs) (h : RegI ps bs w1 D f w) {b : Blk} (hb : b ∈ bs) (ha : D b.a = true) (hvo : D b.vo = true) {X u v α β : Nat} (hX : f b.p = .pointer (some ⟨X, 0, none⟩)) (hle : w1.heap.size ≤ X) (hT : Two w X α β) (hv : f b.v = .agg #[.float .f64 u, .float .f64 v]) :
    RegI ps bs w1 (fun k => D k || k == b.s) f ((w.setCell ⟨X, 0, none⟩ (.float .f64 u)).setCell ⟨X, 1, none⟩ (.float .f64 v)) := by
  have na : ∀ b' ∈ bs, b'.a ≠ b.s := fun b' hb' => hA.y b' hb' b hb
  refine ⟨(h.bel.setCell (p := ⟨X, 0, none⟩) hle _).setCell (p := ⟨X, 1, none⟩) hle _, fun c hc hd => h.gv c hc (dn (hA.x c hc b hb).2.1 hd), fun b' hb' hd => ?_, fun b' hb' b'' hb'' hne hd hd' => h.ne b' hb' b'' hb'' hne (dn (na b' hb') hd) (dn (na b'' hb'') hd'), fun b' hb' hd => ?_⟩
  · by_cases e : b'.a = b.a
    · have := nodup_one hA.n3 b' hb' b hb e
      subst this
      exact ⟨X, u, v, hX, hle, hT.set u v, fun _ => hv⟩
    · have e2 : b'.s ≠ b.s := fun e2 => e (by rw [nodup_one hA.n5 b' hb' b hb e2])
      exact ((h.bk b' hb' (dn (na b' hb') hd)).so (fun e3 => h.ne b' hb' b hb e (dn (na b' hb') hd) ha (e3.trans hX.symm)) _ _).imp (dn e2)
  · by_cases e : b'.s = b.s
    · have := nodup_one hA.n5 b' hb' b hb e
      subst this
      exact ⟨dup ha, dup hvo⟩
    · exact (h.o b' hb' (dn e hd)).imp dup dup
end
/-- one operation, by its kind -/
inductive Does (P : Program) (ops : Array Oper) (Q : Exit → Act → World → Prop) (pre : Nat → List Nat) (act : (Nat → Value) → Act) (ps : Leaves) (bs : List Blk) (w1 : World) (i : Nat) : Prop where
  | value (t : Nat) (φ : Value → Prop) (hm : (i, t, φ) ∈ ps) (h : ∀ f w, Bel w1 w → (∀ c ∈ ps, c.1 ∈ pre i → c.2.2 (f c.2.1)) → wpOp P ops Q i (fun a' w' => ∃ v, a' = act (tset f t v) ∧ φ v ∧ Bel w w') (act f) w) : Does P ops Q pre act ps bs w1 i
  | alloc (b : Blk) (hb : b ∈ bs) (hi : i = b.a) (ty : TypeId) (h : ∀ f w K, K (act (tset f b.p (.pointer (some ⟨w.heap.size, 0, none⟩)))) (w.alloc (.cells #[.float .f64 0, .float .f64 0] ty)) → wpOp P ops Q i K (act f) w) : Does P ops Q pre act ps bs w1 i
  | store (b : Blk) (hb : b ∈ bs) (hi : i = b.s) (ha : b.a ∈ pre i) (hvo : b.vo ∈ pre i) (hφ : ∀ φ, (b.vo, b.v, φ) ∈ ps → ∀ x, φ x → ∃ u v : Nat, x = .agg #[.float .f64 u, .float .f64 v])
      (h : ∀ f w K X u v α β, f b.p = .pointer (some ⟨X, 0, none⟩) → f b.v = .agg #[.float .f64 u, .float .f64 v] → Two w X α β → K (act f) ((w.setCell ⟨X, 0, none⟩ (.float .f64 u)).setCell ⟨X, 1, none⟩ (.float .f64 v)) → wpOp P ops Q i K (act f) w) : Does P ops Q pre act ps bs w1 i
/-- what stands in the new blocks in the end -/
def Filled (bs : List Blk) (w1 w : World) (f : Nat → Value) : Prop := (∀ b ∈ bs, ∃ X α β : Nat, f b.p = .pointer (some ⟨X, 0, none⟩) ∧ w1.heap.size ≤ X ∧ Two w X α β ∧ f b.v = .agg #[.float .f64 α, .float .f64 β]) ∧ ∀ b ∈ bs, ∀ b' ∈ bs, b.a ≠ b'.a → f b.p ≠ f b'.p
theorem wp_region_gv {P : Program} {ops : Array Oper} {Q : Exit → Act → World → Prop} {pre : Nat → List Nat} {id : Nat} {w1 : World} (act : (Nat → Value) → Act) (f0 : Nat → Value) (hm : P.follows .mixedOrders = true) (hc : chkN pre ops = true) (ps : Leaves) (bs : List Blk) (hA : Apart ps bs)
    (hs : ∀ i, i < ops.size → Does P ops Q pre act ps bs w1 i) (hsz : (∀ c ∈ ps, c.1 < ops.size) ∧ ∀ b ∈ bs, b.a < ops.size ∧ b.s < ops.size)
    (hQ : ∀ f w, Bel w1 w → (∀ c ∈ ps, c.2.2 (f c.2.1)) → Filled bs w1 w f → Q .normal (act f) w) : (Code.region id ops true).wp P Q (act f0) w1 := by
  refine wp_region_set (pre := pre) hm hc (fun D a w => ∃ f, a = act f ∧ RegI ps bs w1 D f w) ⟨f0, rfl, (Bel.refl w1).drew, fun _ _ h => absurd h Bool.false_ne_true, fun _ _ h => absurd h Bool.false_ne_true, fun _ _ _ _ _ h => absurd h Bool.false_ne_true, fun _ _ h => absurd h Bool.false_ne_true⟩ ?_ ?_
  · rintro D a w i hi hD hp ⟨f, rfl, hI⟩
    cases hs i hi with
    | value t φ hmem h =>
      refine wpOp_mono ?_ (h f w hI.bel fun c hc hj => hI.gv c hc (hp _ hj))
      rintro a' w' ⟨v, rfl, hv, g⟩
      exact ⟨_, rfl, hI.value hA hmem hD hv g⟩
    | alloc b hb hi' ty h =>
      subst hi'
      exact h f w _ ⟨_, rfl, hI.alloc hA hb hD ty⟩
    | store b hb hi' ha hvo hφ h =>
      have h1 := hp _ ha
      have h2 := hp _ hvo
      subst hi'
      obtain ⟨φ, hz⟩ := hA.z b hb
      obtain ⟨u, v, hv⟩ := hφ φ hz _ (hI.gv _ hz h2)
      obtain ⟨X, α, β, r1, r2, r3, _⟩ := hI.bk b hb h1
      exact h f w _ X u v α β r1 hv r3 ⟨_, rfl, hI.store hA hb h1 h2 r1 r2 r3 hv⟩
  · rintro D a w hD ⟨f, rfl, hI⟩
    refine hQ f w hI.bel (fun c hc => hI.gv c hc (hD _ (hsz.1 c hc))) ⟨fun b hb => ?_, fun b hb b' hb' hne => hI.ne b hb b' hb' hne (hD _ (hsz.2 b hb).1) (hD _ (hsz.2 b' hb').1)⟩
    obtain ⟨X, α, β, r1, r2, r3, r4⟩ := hI.bk b hb (hD _ (hsz.2 b hb).1)
    exact ⟨X, α, β, r1, r2, r3, r4 (hD _ (hsz.2 b hb).2)⟩
end Go.Proofs.Ytniljnidpcgjgaa

/- A region that draws its order, whose last operation waits for all others. -/
namespace Go.Proofs.Ytniljnidpcgjgaa
open Go.RowKit

theorem wp_region_last {P : Program} {ops : Array Oper} {Q : Exit → Act → World → Prop} {pre : Nat → List Nat} {id z : Nat} {w1 : World} (act : (Nat → Value) → Act) (f0 : Nat → Value) (hm : P.follows .mixedOrders = true) (hc : chkN pre ops = true) (hz : z + 1 = ops.size) (hall : ∀ i, i < z → i ∈ pre z)
    (ps : Leaves) (bs : List Blk) (hA : Apart ps bs) (hs : ∀ i, i < z → Does P ops Q pre act ps bs w1 i) (hsz : (∀ c ∈ ps, c.1 < z) ∧ ∀ b ∈ bs, b.a < z ∧ b.s < z)
    (hlast : ∀ f w, Bel w1 w → (∀ c ∈ ps, c.2.2 (f c.2.1)) → Filled bs w1 w f → wpOp P ops Q z (fun a' w' => Q .normal a' w') (act f) w) : (Code.region id ops true).wp P Q (act f0) w1 := by
  refine wp_region_set (pre := pre) hm hc (fun D a w => (D z = false ∧ ∃ f, a = act f ∧ RegI ps bs w1 D f w) ∨ ((∀ i, i < ops.size → D i = true) ∧ Q .normal a w)) (Or.inl ⟨rfl, f0, rfl, (Bel.refl w1).drew, fun _ _ h => absurd h Bool.false_ne_true, fun _ _ h => absurd h Bool.false_ne_true, fun _ _ _ _ _ h => absurd h Bool.false_ne_true, fun _ _ h => absurd h Bool.false_ne_true⟩) ?_ ?_
  · intro D a w i hi hD hp hI
    rcases hI with ⟨hDz, f, rfl, hI⟩ | ⟨hall', _⟩
    · by_cases e : i = z
      · subst e
        have hd : ∀ j, j < i → D j = true := fun j hj => hp j (hall j hj)
        refine wpOp_mono ?_ (hlast f w hI.bel (fun c hc => hI.gv c hc (hd _ (hsz.1 c hc))) ⟨fun b hb => ?_, fun b hb b' hb' hne => hI.ne b hb b' hb' hne (hd _ (hsz.2 b hb).1) (hd _ (hsz.2 b' hb').1)⟩)
        · intro a' w' hq
          refine Or.inr ⟨fun j hj => ?_, hq⟩
          by_cases e2 : j = i
          · subst e2; simp
          · show (D j || j == i) = true
            rw [hd j (by omega)]; rfl
        · obtain ⟨X, α, β, r1, r2, r3, r4⟩ := hI.bk b hb (hd _ (hsz.2 b hb).1)
          exact ⟨X, α, β, r1, r2, r3, r4 (hd _ (hsz.2 b hb).2)⟩
      · have hzD : (D z || z == i) = false := by
          rw [hDz, show (z == i) = false from by rw [beq_eq_false_iff_ne]; exact fun h => e h.symm]; rfl
        cases hs i (by omega) with
        | value t φ hmem h =>
          refine wpOp_mono ?_ (h f w hI.bel fun c hc hj => hI.gv c hc (hp _ hj))
          rintro a' w' ⟨v, rfl, hv, g⟩
          exact Or.inl ⟨hzD, _, rfl, hI.value hA hmem hD hv g⟩
        | alloc b hb hi' ty h =>
          subst hi'
          exact h f w _ (Or.inl ⟨hzD, _, rfl, hI.alloc hA hb hD ty⟩)
        | store b hb hi' ha hvo hφ h =>
          have h1 := hp _ ha
          have h2 := hp _ hvo
          subst hi'
          obtain ⟨φ, hz⟩ := hA.z b hb
          obtain ⟨u, v, hv⟩ := hφ φ hz _ (hI.gv _ hz h2)
          obtain ⟨X, α, β, r1, r2, r3, _⟩ := hI.bk b hb h1
          exact h f w _ X u v α β r1 hv r3 (Or.inl ⟨hzD, _, rfl, hI.store hA hb h1 h2 r1 r2 r3 hv⟩)
    · rw [hall' i hi] at hD
      exact absurd hD (by decide)
  · rintro D a w hD (⟨hDz, _⟩ | ⟨_, hq⟩)
    · rw [hD z (by omega)] at hDz
      exact absurd hDz (by decide)
    · exact hq
end Go.Proofs.Ytniljnidpcgjgaa

/- Frames of which some temporaries are open: no frame need be spelt. -/
namespace Go.Proofs.Ytniljnidpcgjgaa
open Go.RowKit

/-- the frame with other values in some temporaries -/
def actOf (a0 : Act) (ds : List Nat) (f : Nat → Value) : Act := ⟨a0.tmps.mapIdx fun t v => if t ∈ ds then f t else v, a0.defers⟩
theorem actOf_size (a0 : Act) (ds : List Nat) (f : Nat → Value) : (actOf a0 ds f).tmps.size = a0.tmps.size := by simp [actOf]
theorem act_ext {a b : Act} (h1 : a.tmps = b.tmps) (h2 : a.defers = b.defers) : a = b := by
  cases a; cases b; simp at h1 h2; subst h1 h2; rfl
theorem actOf_self (a0 : Act) (ds : List Nat) : actOf a0 ds (fun t => a0.eval (.tmp t)) = a0 := by
  refine act_ext ?_ rfl
  refine Array.ext (by simp [actOf]) fun i h1 h2 => ?_
  simp only [actOf, Array.getElem_mapIdx]
  by_cases c : i ∈ ds
  · rw [if_pos c]
    show a0.tmps.getD i undef = _
    rw [Array.getD_eq_getD_getElem?, Array.getElem?_eq_getElem h2]; rfl
  · rw [if_neg c]
theorem actOf_put (a0 : Act) (ds : List Nat) (f : Nat → Value) {t : Nat} (ht : t ∈ ds) (v : Value) : (actOf a0 ds f).put (some t) v = actOf a0 ds (tset f t v) := by
  refine act_ext ?_ rfl
  show (actOf a0 ds f).tmps.setIfInBounds t v = (actOf a0 ds (tset f t v)).tmps
  refine Array.ext (by simp [actOf]) fun i h1 h2 => ?_
  have h3 : i < (actOf a0 ds f).tmps.size := by simpa using h1
  rw [Array.getElem_setIfInBounds h3]
  simp only [actOf, Array.getElem_mapIdx]
  by_cases c : t = i
  · subst c
    rw [if_pos rfl, if_pos ht, tset_self]
  · rw [if_neg c]
    by_cases c2 : i ∈ ds
    · rw [if_pos c2, if_pos c2, tset_ne _ _ (fun e => c e.symm)]
    · rw [if_neg c2, if_neg c2]
theorem actOf_in (a0 : Act) (ds : List Nat) (f : Nat → Value) {t : Nat} (ht : t ∈ ds) (hs : t < a0.tmps.size) : (actOf a0 ds f).eval (.tmp t) = f t := by
  show (actOf a0 ds f).tmps.getD t undef = _
  rw [Array.getD_eq_getD_getElem?, Array.getElem?_eq_getElem (by rw [actOf_size]; exact hs)]
  simp only [actOf, Array.getElem_mapIdx, Option.getD_some]
  rw [if_pos ht]
theorem actOf_out (a0 : Act) (ds : List Nat) (f : Nat → Value) {t : Nat} (ht : t ∉ ds) : (actOf a0 ds f).eval (.tmp t) = a0.eval (.tmp t) := by
  show (actOf a0 ds f).tmps.getD t undef = a0.tmps.getD t undef
  rw [Array.getD_eq_getD_getElem?, Array.getD_eq_getD_getElem?]
  by_cases hs : t < a0.tmps.size
  · rw [Array.getElem?_eq_getElem (by rw [actOf_size]; exact hs), Array.getElem?_eq_getElem hs]
    simp only [actOf, Array.getElem_mapIdx, Option.getD_some]
    rw [if_neg ht]
  · rw [Array.getElem?_eq_none (by rw [actOf_size]; omega), Array.getElem?_eq_none (by omega)]
/-- the same frame, with the values that stand in it -/
theorem actOf_of (a0 : Act) (ds : List Nat) (f g : Nat → Value) (h : ∀ t ∈ ds, f t = g t) : actOf a0 ds f = actOf a0 ds g := by
  refine act_ext ?_ rfl
  refine Array.ext (by simp [actOf]) fun i h1 h2 => ?_
  simp only [actOf, Array.getElem_mapIdx]
  by_cases c : i ∈ ds
  · rw [if_pos c, if_pos c, h i c]
  · rw [if_neg c, if_neg c]
end Go.Proofs.Ytniljnidpcgjgaa

/- One operation of a drawn region at a time: a choice, a test, calls of none to four arguments, a place; guarded operations. No type is named here. -/
namespace Go.Proofs.Ytniljnidpcgjgaa
open Go.RowKit

theorem wpOp_if {P : Program} {ops : Array Oper} {Q : Exit → Act → World → Prop} {i j t : Nat} {b : Bool} {o : Oper} {a : Act} {w : World} {K : Act → World → Prop} (ho : ops[i]? = some o) (hg : o.guard = some (j, b)) (hj : (ops[j]?).bind (·.dst) = some t) (hv : a.eval (.tmp t) = .bool b) (h : Oper.wp P o a w K Q) : wpOp P ops Q i K a w := by
  unfold wpOp
  simp only [ho]
  have hv2 : a.tmps[t]?.getD undef = .bool b := by simpa [Act.eval, go_sem] using hv
  have hv3 : a.tmps[t]? = some (.bool b) := by
    cases ht : a.tmps[t]? with
    | none => rw [ht] at hv2; exact absurd hv2 (by intro e; cases e)
    | some v => rw [ht] at hv2; exact congrArg some hv2
  have hw : Region.wanted o (yielded ops a.tmps) = true := by
    unfold Region.wanted yielded
    rw [hg]
    simp [hj, hv3]
  rw [if_pos hw]
  exact Or.inl h
theorem step_pick {P : Program} {o : Oper} {d : Option Nat} {a : Act} {w : World} {K : Act → World → Prop} {Q : Exit → Act → World → Prop} {c s x : Operand} {v : Value} (hd : o.dst = d) (hop : o.op = .pick c s x) (hc : a.eval c = .bool true) (hs : a.eval s = v) (hK : K (a.put d v) w) : Oper.wp P o a w K Q := by
  subst hd hs
  unfold Oper.wp
  simp [execOp, hop, hc]
  exact hK
theorem step_pickf {P : Program} {o : Oper} {d : Option Nat} {a : Act} {w : World} {K : Act → World → Prop} {Q : Exit → Act → World → Prop} {c s x : Operand} {v : Value} (hd : o.dst = d) (hop : o.op = .pick c s x) (hc : a.eval c = .bool false) (hs : a.eval x = v) (hK : K (a.put d v) w) : Oper.wp P o a w K Q := by
  subst hd hs
  unfold Oper.wp
  simp [execOp, hop, hc]
  exact hK
theorem step_callN0 {o : Oper} {d : Option Nat} {a : Act} {w : World} {K : Act → World → Prop} {Q : Exit → Act → World → Prop} {f : FuncId} (hd : o.dst = d) (hop : o.op = .call { callee := .value (.func f), args := #[], argTypes := #[] })
    (hrun : (callFunc f #[]).run Try.prog w = .ok (.enter f #[]) w)
    (hC : Calls Try.prog f #[] w fun r w' => ∃ y, r = .returned y ∧ K (a.put d y) w') : Oper.wp Try.prog o a w K Q := by
  subst hd
  unfold Oper.wp
  simp [execOp, hop, hrun, go_sem]
  try rw [Oper.upon_enter]
  refine hC.mono ?_
  rintro r w' ⟨y, rfl, hK⟩
  exact hK
theorem step_callN1 {o : Oper} {d : Option Nat} {a : Act} {w : World} {K : Act → World → Prop} {Q : Exit → Act → World → Prop} {f : FuncId} {s : Operand} {t : TypeId} {v : Value} (hd : o.dst = d) (hop : o.op = .call { callee := .value (.func f), args := #[s], argTypes := #[t] }) (hs : a.eval s = v)
    (hrun : (callFunc f #[v]).run Try.prog w = .ok (.enter f #[v]) w)
    (hC : Calls Try.prog f #[v] w fun r w' => ∃ y, r = .returned y ∧ K (a.put d y) w') : Oper.wp Try.prog o a w K Q := by
  subst hd
  unfold Oper.wp
  have hf : a.eval (.func f) = .func (.func f) #[] #[] := rfl
  generalize a.eval = ev at hs hf ⊢
  simp [execOp, hop, hs, hf, hrun, go_sem]
  try rw [Oper.upon_enter]
  refine hC.mono ?_
  rintro r w' ⟨y, rfl, hK⟩
  exact hK
theorem step_callN2 {o : Oper} {d : Option Nat} {a : Act} {w : World} {K : Act → World → Prop} {Q : Exit → Act → World → Prop} {f : FuncId} {s s' : Operand} {t t' : TypeId} {v v' : Value} (hd : o.dst = d) (hop : o.op = .call { callee := .value (.func f), args := #[s, s'], argTypes := #[t, t'] }) (hs : a.eval s = v) (hs' : a.eval s' = v')
    (hrun : (callFunc f #[v, v']).run Try.prog w = .ok (.enter f #[v, v']) w)
    (hC : Calls Try.prog f #[v, v'] w fun r w' => ∃ y, r = .returned y ∧ K (a.put d y) w') : Oper.wp Try.prog o a w K Q := by
  subst hd
  unfold Oper.wp
  have hf : a.eval (.func f) = .func (.func f) #[] #[] := rfl
  generalize a.eval = ev at hs hs' hf ⊢
  simp [execOp, hop, hs, hs', hf, hrun, go_sem]
  try rw [Oper.upon_enter]
  refine hC.mono ?_
  rintro r w' ⟨y, rfl, hK⟩
  exact hK
theorem step_callN3 {o : Oper} {d : Option Nat} {a : Act} {w : World} {K : Act → World → Prop} {Q : Exit → Act → World → Prop} {f : FuncId} {s s' s'' : Operand} {t t' t'' : TypeId} {v v' v'' : Value} (hd : o.dst = d) (hop : o.op = .call { callee := .value (.func f), args := #[s, s', s''], argTypes := #[t, t', t''] }) (hs : a.eval s = v) (hs' : a.eval s' = v') (hs'' : a.eval s'' = v'')
    (hrun : (callFunc f #[v, v', v'']).run Try.prog w = .ok (.enter f #[v, v', v'']) w)
    (hC : Calls Try.prog f #[v, v', v''] w fun r w' => ∃ y, r = .returned y ∧ K (a.put d y) w') : Oper.wp Try.prog o a w K Q := by
  subst hd
  unfold Oper.wp
  have hf : a.eval (.func f) = .func (.func f) #[] #[] := rfl
  generalize a.eval = ev at hs hs' hs'' hf ⊢
  simp [execOp, hop, hs, hs', hs'', hf, hrun, go_sem]
  try rw [Oper.upon_enter]
  refine hC.mono ?_
  rintro r w' ⟨y, rfl, hK⟩
  exact hK
theorem step_callN4 {o : Oper} {d : Option Nat} {a : Act} {w : World} {K : Act → World → Prop} {Q : Exit → Act → World → Prop} {f : FuncId} {s s' s'' s3 : Operand} {t t' t'' t3 : TypeId} {v v' v'' v3 : Value} (hd : o.dst = d) (hop : o.op = .call { callee := .value (.func f), args := #[s, s', s'', s3], argTypes := #[t, t', t'', t3] }) (hs : a.eval s = v) (hs' : a.eval s' = v') (hs'' : a.eval s'' = v'') (hs3 : a.eval s3 = v3)
    (hrun : (callFunc f #[v, v', v'', v3]).run Try.prog w = .ok (.enter f #[v, v', v'', v3]) w)
    (hC : Calls Try.prog f #[v, v', v'', v3] w fun r w' => ∃ y, r = .returned y ∧ K (a.put d y) w') : Oper.wp Try.prog o a w K Q := by
  subst hd
  unfold Oper.wp
  have hf : a.eval (.func f) = .func (.func f) #[] #[] := rfl
  generalize a.eval = ev at hs hs' hs'' hs3 hf ⊢
  simp [execOp, hop, hs, hs', hs'', hs3, hf, hrun, go_sem]
  try rw [Oper.upon_enter]
  refine hC.mono ?_
  rintro r w' ⟨y, rfl, hK⟩
  exact hK
theorem step_indexM {o : Oper} {d : Option Nat} {a : Act} {w : World} {K : Act → World → Prop} {Q : Exit → Act → World → Prop} {t : TypeId} {s x : Operand} {p i v : Value} (hd : o.dst = d) (hop : o.op = .indexAddr t s x) (hs : a.eval s = p) (hx : a.eval x = i)
    (hrun : (Instr.indexAt t p i).run Try.prog w = .ok v w) (hK : K (a.put d v) w) : Oper.wp Try.prog o a w K Q := by
  subst hd
  unfold Oper.wp
  simp [execOp, hop, hs, hx, hrun]
  exact hK
theorem step_bin {P : Program} {op : BinOp} {o : Oper} {d : Option Nat} {a : Act} {w : World} {K : Act → World → Prop} {Q : Exit → Act → World → Prop} {t t' : TypeId} {s x : Operand} {p q v : Value} (hd : o.dst = d) (hop : o.op = .binOp op t s x t') (hs : a.eval s = p) (hx : a.eval x = q)
    (h1 : (eqGuard op t s x p q).run P w = .ok () w) (h2 : (binOp op t p q).run P w = .ok v w) (hK : K (a.put d v) w) : Oper.wp P o a w K Q := by
  subst hd
  have h3 : (execOp a.eval o).run P w = .ok (.value v) w := by
    simp only [execOp, hop, hs, hx]
    simp [Sem.run_bind, h1, h2]
  unfold Oper.wp
  rw [h3]
  exact hK
theorem grd_int (t : TypeId) (s x : Operand) (a b : Int) (w : World) : (eqGuard .eql t s x (.int .i64 a) (.int .i64 b)).run Try.prog w = .ok () w := by rfl
theorem step_not {P : Program} {o : Oper} {d : Option Nat} {a : Act} {w : World} {K : Act → World → Prop} {Q : Exit → Act → World → Prop} {t : TypeId} {s : Operand} {b : Bool} (hd : o.dst = d) (hop : o.op = .unOp .not t s) (hs : a.eval s = .bool b) (hK : K (a.put d (.bool (!b))) w) : Oper.wp P o a w K Q := by
  subst hd
  unfold Oper.wp
  have h3 : (execOp a.eval o).run P w = .ok (.value (.bool (!b))) w := by
    simp only [execOp, hop, hs]
    rfl
  rw [h3]
  exact hK
/-- a guarded operation that is not wanted leaves nothing -/
theorem wpOp_skip {P : Program} {ops : Array Oper} {Q : Exit → Act → World → Prop} {i j t : Nat} {b : Bool} {o : Oper} {d : Option Nat} {a : Act} {w : World} {K : Act → World → Prop} (ho : ops[i]? = some o) (hd : o.dst = d) (hg : o.guard = some (j, b)) (hj : (ops[j]?).bind (·.dst) = some t) (hv : a.eval (.tmp t) = .bool (!b)) (h : K (a.put d undef) w) : wpOp P ops Q i K a w := by
  subst hd
  unfold wpOp
  simp only [ho]
  have hv2 : a.tmps[t]?.getD undef = .bool (!b) := by simpa [Act.eval, go_sem] using hv
  have hv3 : a.tmps[t]? = some (.bool (!b)) := by
    cases ht : a.tmps[t]? with
    | none => rw [ht] at hv2; exact absurd hv2 (by intro e; cases e)
    | some v => rw [ht] at hv2; exact congrArg some hv2
  have hw : Region.wanted o (yielded ops a.tmps) = false := by
    unfold Region.wanted yielded
    rw [hg]
    cases b <;> simp [hj, hv3]
  rw [hw]
  exact h
end Go.Proofs.Ytniljnidpcgjgaa

/- Lists of ints as slices that a call reads; a list that a call appends to. -/
namespace Go.Proofs.Ytniljnidpcgjgaa
open Go.RowKit
set_option linter.unusedVariables false

/-- a list of n ints: its slice's place -/
structure IL (w : World) (p : Option Addr) (n : Nat) (zs : List Int) : Prop where
  len : zs.length = n
  form : n = 0 ∨ ∃ B off, p = some ⟨B, off, none⟩ ∧ B < w.heap.size ∧ ∀ (j : Nat) z, zs[j]? = some z → w.cell? ⟨B, off + j, none⟩ = some (.int .i64 z)
theorem IL.nil (w : World) (p : Option Addr) : IL w p 0 [] := ⟨rfl, Or.inl rfl⟩
theorem IL.bel {w w' : World} {p : Option Addr} {n : Nat} {zs : List Int} (h : IL w p n zs) (k : Bel w w') : IL w' p n zs := by
  refine ⟨h.len, ?_⟩
  rcases h.form with h | ⟨B, off, h1, h2, h3⟩
  · exact Or.inl h
  · exact Or.inr ⟨B, off, h1, Nat.lt_of_lt_of_le h2 k.size, fun j z hz => (k.cell (p := ⟨B, off + j, none⟩) h2).trans (h3 j z hz)⟩
theorem IL.of {w : World} {v : Value} {zs : List Int} (h : IRow w v zs) : ∃ p n cap, v = .slice p n cap ∧ IL w p n zs := by
  cases h with
  | nil => exact ⟨_, _, _, rfl, rfl, Or.inl rfl⟩
  | none a cap => exact ⟨_, _, _, rfl, rfl, Or.inl rfl⟩
  | some b off cap _ h0 hc hm hb hcell => exact ⟨_, _, _, rfl, rfl, Or.inr ⟨b, off, rfl, hb, hcell⟩⟩
/-- one place read -/
theorem IL.at {w : World} {p : Option Addr} {n : Nat} {zs : List Int} {j : Nat} (h : IL w p n zs) (hj : j < n) : ∃ B off z, p = some ⟨B, off, none⟩ ∧ B < w.heap.size ∧ zs[j]? = some z ∧ w.cell? ⟨B, off + j, none⟩ = some (.int .i64 z) := by
  rcases h.form with h | ⟨B, off, h1, h2, h3⟩
  · omega
  · have hl := h.len
    exact ⟨B, off, _, h1, h2, List.getElem?_eq_getElem (by omega), h3 j _ (List.getElem?_eq_getElem (by omega))⟩
/-- a list that was appended to -/
theorem IL.own {w : World} {v : Value} {n : Nat} {zs : List Int} {base : Nat} {e : TypeId} (hl : zs.length = n) (h : w.ownsRow base e 1 v n (zs.map (Value.int .i64))) : ∃ p cap, v = .slice p n cap ∧ IL w p n zs := by
  rcases ownsRow_form' h with ⟨rfl, h2⟩ | ⟨g, cap, rfl, h1, h2, h3, h4⟩
  · subst h2
    exact ⟨none, 0, rfl, hl, Or.inl rfl⟩
  · refine ⟨_, _, rfl, hl, Or.inr ⟨g, 0, rfl, h2, fun j z hz => ?_⟩⟩
    have hlt := (List.getElem?_eq_some_iff.1 hz).1
    rw [Nat.zero_add, h.cellAt j (by omega), List.getElem?_map, hz]; rfl
theorem int_info : (Try.prog.info? 3).map (fun i => (i.zero, i.size, i.bytes)) = some (some (.int .i64 0), 1, 8) := by kernel_rfl
theorem grd_ints (op : BinOp) (t : TypeId) (s x : Operand) (a b : Int) (w : World) : (eqGuard op t s x (.int .i64 a) (.int .i64 b)).run Try.prog w = .ok () w := by cases op <;> rfl
theorem load_int {w : World} {A j : Nat} {x : Int} (h : w.cell? ⟨A, j, none⟩ = some (.int .i64 x)) : (Instr.loadAt 3 (.pointer (some ⟨A, j, none⟩))).run Try.prog w = .ok (.int .i64 x) w := by simp [go_sem, h]
theorem index_ints (g off n cap i : Nat) (hi : i < n) (w : World) : (Instr.indexAt 22 (.slice (some ⟨g, off, none⟩) n cap) (.int .i64 (i : Int))).run Try.prog w = .ok (.pointer (some ⟨g, off + i, none⟩)) w := by
  simp [go_sem, hi]
theorem ints_take {zs : List Int} {j : Nat} {z : Int} (h : zs[j]? = some z) : ((zs.take j).map (Value.int .i64)) ++ [Value.int .i64 z] = (zs.take (j + 1)).map (Value.int .i64) := by
  rw [List.take_add_one, h]
  simp
end Go.Proofs.Ytniljnidpcgjgaa

/- Long numbers as the reference of layer 3 has them: 110 limbs of 30 bits in memory. No program is named here. -/
namespace Go.Proofs.Ytniljnidpcgjgaa
open Go.RowKit

/-- of what was there nothing turns but the cells of block g -/
structure Touch (g : Nat) (w w' : World) : Prop where
  below : Below g w w'
  only : ∀ k, k < w.heap.size → k ≠ g → w'.heap[k]? = w.heap[k]?
theorem Touch.refl (g : Nat) (w : World) : Touch g w w := ⟨Below.refl _ _, fun _ _ _ => rfl⟩
theorem Touch.trans {g : Nat} {a b c : World} (h : Touch g a b) (k : Touch g b c) : Touch g a c :=
  ⟨h.below.trans k.below, fun i hi hg => (k.only i (Nat.lt_of_lt_of_le hi h.below.size) hg).trans (h.only i hi hg)⟩
theorem Touch.drew {g : Nat} {a w : World} (h : Touch g a w) : Touch g a w.drew := ⟨h.below.drew, h.only⟩
theorem Touch.setCell {g : Nat} {a w : World} (h : Touch g a w) {p : Addr} (hp : p.block = g) (u : Value) : Touch g a (w.setCell p u) :=
  ⟨h.below.setCell (Nat.le_of_eq hp.symm) u, fun k hk hg => (Below.heap_setCell w p u k (by rw [hp]; exact hg)).trans (h.only k hk hg)⟩
theorem Touch.alloc {g : Nat} {a w : World} (h : Touch g a w) (hg : g < w.heap.size) (o : Obj) : Touch g a (w.alloc o) :=
  ⟨h.below.alloc (Nat.le_of_lt hg) o, fun k hk hk2 => (Below.heap_alloc w o k (Nat.lt_of_lt_of_le hk h.below.size)).trans (h.only k hk hk2)⟩
theorem Touch.cell {g : Nat} {w w' : World} (h : Touch g w w') {p : Addr} (hp : p.block < w.heap.size) (hg : p.block ≠ g) : w'.cell? p = w.cell? p := World.cell?_of_block (w := w) (h.only p.block hp hg)
theorem Touch.frozen {g : Nat} {w w' : World} (h : Touch g w w') {p : Addr} (hp : p.block < w.heap.size) (hg : p.block ≠ g) : w'.frozen? p = w.frozen? p := World.frozen?_of_block (w := w) (h.only p.block hp hg)
theorem Bel.touch {g : Nat} {w w' : World} (h : Bel w w') (hg : g ≤ w.heap.size) : Touch g w w' := ⟨Below.mono h hg, fun k hk _ => h.block k hk⟩
def LongAt (w : World) (g : Nat) (f : Nat → Int) : Prop := ∀ i, i < 110 → w.cell? ⟨g, i, none⟩ = some (.int .i64 (f i)) ∧ w.frozen? ⟨g, i, none⟩ = false
def lsum (f : Nat → Int) : Nat → Int
  | 0 => 0
  | n + 1 => lsum f n + f n * 2 ^ (30 * n)
def upd (f : Nat → Int) (k : Nat) (v : Int) : Nat → Int := fun i => if i = k then v else f i
theorem upd_same (f : Nat → Int) (k : Nat) (v : Int) : upd f k v k = v := if_pos rfl
theorem upd_other (f : Nat → Int) {k i : Nat} (v : Int) (h : i ≠ k) : upd f k v i = f i := if_neg h
theorem lsum_congr {f h : Nat → Int} : ∀ n, (∀ i, i < n → f i = h i) → lsum f n = lsum h n
  | 0, _ => rfl
  | n + 1, e => by
    show lsum f n + f n * _ = lsum h n + h n * _
    rw [lsum_congr n fun i hi => e i (by omega), e n (by omega)]
theorem lsum_upd (f : Nat → Int) (k : Nat) (d : Int) : ∀ n, k < n → lsum (upd f k (f k + d)) n = lsum f n + d * 2 ^ (30 * k)
  | n + 1, h => by
    show lsum (upd f k (f k + d)) n + upd f k (f k + d) n * _ = lsum f n + f n * _ + _
    by_cases c : k = n
    · subst c
      rw [upd_same, lsum_congr (h := f) k fun i hi => upd_other f _ (by omega), Int.add_mul]; omega
    · rw [upd_other f _ (by omega), lsum_upd f k d n (by omega)]; omega
theorem LongAt.put {w : World} {g : Nat} {f : Nat → Int} (h : LongAt w g f) {k : Nat} (hk : k < 110) (v : Int) : LongAt (w.setCell ⟨g, k, none⟩ (.int .i64 v)) g (upd f k v) := by
  intro i hi
  refine ⟨?_, by rw [World.frozen?_setCell]; exact (h i hi).2⟩
  by_cases c : i = k
  · subst c
    rw [upd_same]
    exact World.cell?_setCell_same' w _ _ (by rw [(h i hi).1]; rfl)
  · rw [upd_other f v c, World.cell?_setCell_other]
    · exact (h i hi).1
    · intro e
      cases e
      exact c rfl
/-- the value, in units of 2^-1200 -/
noncomputable def lval (f : Nat → Int) : Int := Classical.choose (⟨lsum f 110, rfl⟩ : ∃ v, v = lsum f 110)
theorem lval_eq (f : Nat → Int) : lval f = lsum f 110 := Classical.choose_spec (⟨lsum f 110, rfl⟩ : ∃ v, v = lsum f 110)
theorem lval_upd (f : Nat → Int) {k : Nat} (h : k < 110) (d : Int) : lval (upd f k (f k + d)) = lval f + d * 2 ^ (30 * k) := by
  rw [lval_eq, lval_eq]; exact lsum_upd f k d 110 h

theorem pw (j : Nat) : ((2 ^ j : Nat) : Int) = (2 : Int) ^ j := by rw [Int.natCast_pow]; rfl
theorem sg_abs (neg : Bool) (X : Nat) : ((if neg then -1 else 1) * (X : Int)).natAbs = X := by
  cases neg
  · show (1 * (X : Int)).natAbs = X
    omega
  · show (-1 * (X : Int)).natAbs = X
    omega
/-- the state of Put's loop -/
structure PutInv (m : Nat) (neg : Bool) (at' : Nat) (f0 f : Nat → Int) (i u : Nat) : Prop where
  u : u = m / 2 ^ (30 * i)
  val : lval f = lval f0 + (if neg then -1 else 1) * ((m % 2 ^ (30 * i) : Nat) : Int) * 2 ^ at'
  le : ∀ j, (f j - f0 j).natAbs ≤ i * 1073741824
theorem PutInv.start (m : Nat) (neg : Bool) (at' : Nat) (f : Nat → Int) : PutInv m neg at' f f 0 m :=
  ⟨by simp, by simp [Nat.mod_one], fun j => by simp⟩
/-- one round: a piece of 30 bits, moved, in two limbs -/
theorem PutInv.next {m : Nat} {neg : Bool} {at' : Nat} {f0 f : Nat → Int} {i u k s : Nat} (h : PutInv m neg at' f0 f i u) (hat : at' = 30 * k + s) (hs : s < 30) (hk : k + i + 1 < 110) {low high : Int}
    (hl : low = (if neg then -1 else 1) * ((u % 1073741824 * 2 ^ s % 1073741824 : Nat) : Int)) (hh : high = (if neg then -1 else 1) * ((u % 1073741824 * 2 ^ s / 1073741824 : Nat) : Int)) :
    PutInv m neg at' f0 (upd (upd f (k + i) (f (k + i) + low)) (k + i + 1) (upd f (k + i) (f (k + i) + low) (k + i + 1) + high)) (i + 1) (u / 1073741824) := by
  have p30 : (2 : Nat) ^ 30 = 1073741824 := rfl
  have hq : u % 1073741824 * 2 ^ s < 1073741824 * 1073741824 := by
    have h1 : u % 1073741824 < 1073741824 := Nat.mod_lt _ (by decide)
    have h2 : 2 ^ s ≤ 2 ^ 30 := Nat.pow_le_pow_right (by decide) (by omega)
    calc u % 1073741824 * 2 ^ s ≤ u % 1073741824 * 2 ^ 30 := Nat.mul_le_mul_left _ h2
      _ < 1073741824 * 1073741824 := by rw [p30]; exact Nat.mul_lt_mul_of_pos_right h1 (by decide)
  refine ⟨?_, ?_, ?_⟩
  · rw [h.u, Nat.div_div_eq_div_mul, show 30 * (i + 1) = 30 * i + 30 from by omega, Nat.pow_add]
  · rw [lval_upd _ (by omega), lval_upd f (by omega), h.val, hl, hh]
    have e1 : m % 2 ^ (30 * (i + 1)) = m % 2 ^ (30 * i) + (u % 1073741824) * 2 ^ (30 * i) := by
      rw [show 30 * (i + 1) = 30 * i + 30 from by omega, Nat.pow_add, Nat.mod_mul, h.u]
      exact congrArg (m % 2 ^ (30 * i) + ·) (Nat.mul_comm _ _)
    have e2 : u % 1073741824 * 2 ^ s = u % 1073741824 * 2 ^ s % 1073741824 + 1073741824 * (u % 1073741824 * 2 ^ s / 1073741824) := (Nat.mod_add_div _ _).symm
    obtain ⟨q, hq⟩ : ∃ q, q = u % 1073741824 * 2 ^ s := ⟨_, rfl⟩
    obtain ⟨sg, hsg⟩ : ∃ sg : Int, sg = (if neg then -1 else 1) := ⟨_, rfl⟩
    rw [← hsg, ← hq, e1]
    rw [← hq] at e2
    have e3 : ((q % 1073741824 : Nat) : Int) * 2 ^ (30 * (k + i)) + ((q / 1073741824 : Nat) : Int) * 2 ^ (30 * (k + i + 1)) = (q : Int) * 2 ^ (30 * (k + i)) := by
      rw [show 30 * (k + i + 1) = 30 * (k + i) + 30 from by omega, Int.pow_add]
      have : (q : Int) = ((q % 1073741824 : Nat) : Int) + 1073741824 * ((q / 1073741824 : Nat) : Int) := by omega
      obtain ⟨A, hA⟩ : ∃ A, A = ((q % 1073741824 : Nat) : Int) := ⟨_, rfl⟩
      obtain ⟨B, hB⟩ : ∃ B, B = ((q / 1073741824 : Nat) : Int) := ⟨_, rfl⟩
      rw [← hA, ← hB] at this ⊢
      rw [this, Int.add_mul]
      have e30 : (2 : Int) ^ 30 = 1073741824 := rfl
      rw [e30]
      have h5 : B * (2 ^ (30 * (k + i)) * 1073741824) = 1073741824 * B * 2 ^ (30 * (k + i)) := by ac_rfl
      rw [h5]
    have e4 : (q : Int) * 2 ^ (30 * (k + i)) = ((u % 1073741824 * 2 ^ (30 * i) : Nat) : Int) * 2 ^ at' := by
      rw [hq, hat, Int.natCast_mul, Int.natCast_mul, pw, pw, show 30 * (k + i) = 30 * k + 30 * i from by omega, Int.pow_add, Int.pow_add]
      ac_rfl
    obtain ⟨T, hT⟩ : ∃ T : Int, T = ((u % 1073741824 * 2 ^ (30 * i) : Nat) : Int) := ⟨_, rfl⟩
    rw [← hT] at e4
    rw [Int.natCast_add, ← hT, Int.mul_add, Int.add_mul, Int.mul_assoc sg T, ← e4, ← e3]
    have h7 : sg * ((q % 1073741824 : Nat) : Int) * 2 ^ (30 * (k + i)) + sg * ((q / 1073741824 : Nat) : Int) * 2 ^ (30 * (k + i + 1)) =
        sg * (((q % 1073741824 : Nat) : Int) * 2 ^ (30 * (k + i)) + ((q / 1073741824 : Nat) : Int) * 2 ^ (30 * (k + i + 1))) := by
      rw [Int.mul_add, Int.mul_assoc, Int.mul_assoc]
    omega
  · intro j
    have hj := h.le j
    have b1 : u % 1073741824 * 2 ^ s % 1073741824 < 1073741824 := Nat.mod_lt _ (by decide)
    have b2 : u % 1073741824 * 2 ^ s / 1073741824 < 1073741824 := by
      refine (Nat.div_lt_iff_lt_mul (by decide)).2 hq
    have l1 : low.natAbs < 1073741824 := by rw [hl, sg_abs]; exact b1
    have l2 : high.natAbs < 1073741824 := by rw [hh, sg_abs]; exact b2
    clear hl hh hq b1 b2 hat h p30
    rw [show (i + 1) * 1073741824 = i * 1073741824 + 1073741824 from by rw [Nat.add_mul, Nat.one_mul]]
    obtain ⟨X, hX⟩ : ∃ X, X = i * 1073741824 := ⟨_, rfl⟩
    rw [← hX] at hj ⊢
    clear hX
    unfold upd
    by_cases c1 : j = k + i + 1
    · rw [if_pos c1, if_neg (by omega : ¬ k + i + 1 = k + i)]
      subst c1
      omega
    · rw [if_neg c1]
      by_cases c2 : j = k + i
      · rw [if_pos c2]
        subst c2
        omega
      · rw [if_neg c2]; omega
/-- one round, the sign given -/
theorem PutInv.next_t {m : Nat} {at' : Nat} {f0 f : Nat → Int} {i u k s : Nat} (h : PutInv m true at' f0 f i u) (hat : at' = 30 * k + s) (hs : s < 30) (hk : k + i + 1 < 110) :
    PutInv m true at' f0 (upd (upd f (k + i) (f (k + i) + -((u % 1073741824 * 2 ^ s % 1073741824 : Nat) : Int))) (k + i + 1) (upd f (k + i) (f (k + i) + -((u % 1073741824 * 2 ^ s % 1073741824 : Nat) : Int)) (k + i + 1) + -((u % 1073741824 * 2 ^ s / 1073741824 : Nat) : Int))) (i + 1) (u / 1073741824) :=
  h.next hat hs hk (by rw [if_pos rfl, Int.neg_mul, Int.one_mul]) (by rw [if_pos rfl, Int.neg_mul, Int.one_mul])
theorem PutInv.next_f {m : Nat} {at' : Nat} {f0 f : Nat → Int} {i u k s : Nat} (h : PutInv m false at' f0 f i u) (hat : at' = 30 * k + s) (hs : s < 30) (hk : k + i + 1 < 110) :
    PutInv m false at' f0 (upd (upd f (k + i) (f (k + i) + ((u % 1073741824 * 2 ^ s % 1073741824 : Nat) : Int))) (k + i + 1) (upd f (k + i) (f (k + i) + ((u % 1073741824 * 2 ^ s % 1073741824 : Nat) : Int)) (k + i + 1) + ((u % 1073741824 * 2 ^ s / 1073741824 : Nat) : Int))) (i + 1) (u / 1073741824) :=
  h.next hat hs hk (by rw [if_neg (by decide), Int.one_mul]) (by rw [if_neg (by decide), Int.one_mul])
end Go.Proofs.Ytniljnidpcgjgaa

/- Lists of ints that a call may write: a block's cells; a copy made by append. -/
namespace Go.Proofs.Ytniljnidpcgjgaa
open Go.RowKit
set_option linter.unusedVariables false

/-- a list of ints that may be written -/
structure WL (w : World) (G off n : Nat) (zs : List Int) : Prop where
  len : zs.length = n
  lt : G < w.heap.size
  c : ∀ (j : Nat) z, zs[j]? = some z → w.cell? ⟨G, off + j, none⟩ = some (.int .i64 z)
  z : ∀ j, j < n → w.frozen? ⟨G, off + j, none⟩ = false
theorem WL.il {w : World} {G off n : Nat} {zs : List Int} (h : WL w G off n zs) : IL w (some ⟨G, off, none⟩) n zs := ⟨h.len, Or.inr ⟨G, off, rfl, h.lt, h.c⟩⟩
theorem WL.bel {w w' : World} {G off n : Nat} {zs : List Int} (h : WL w G off n zs) (k : Bel w w') : WL w' G off n zs :=
  ⟨h.len, Nat.lt_of_lt_of_le h.lt k.size, fun j z hz => (k.cell (p := ⟨G, off + j, none⟩) h.lt).trans (h.c j z hz), fun j hj => (k.frozen (p := ⟨G, off + j, none⟩) h.lt).trans (h.z j hj)⟩
theorem WL.touch {w w' : World} {g G off n : Nat} {zs : List Int} (h : WL w G off n zs) (k : Touch g w w') (hne : G ≠ g) : WL w' G off n zs :=
  ⟨h.len, Nat.lt_of_lt_of_le h.lt k.below.size, fun j z hz => (k.cell (p := ⟨G, off + j, none⟩) h.lt hne).trans (h.c j z hz), fun j hj => (k.frozen (p := ⟨G, off + j, none⟩) h.lt hne).trans (h.z j hj)⟩
theorem WL.other {w : World} {G off n X k : Nat} {zs : List Int} (h : WL w G off n zs) (hX : G ≠ X) (u : Value) : WL (w.setCell ⟨X, k, none⟩ u) G off n zs :=
  ⟨h.len, by simp; exact h.lt, fun j z hz => (World.cell?_setCell_other _ _ _ _ (by intro e; exact hX (congrArg Addr.block e).symm)).trans (h.c j z hz), fun j hj => by rw [World.frozen?_setCell]; exact h.z j hj⟩
theorem WL.set {w : World} {G off n i : Nat} {zs : List Int} (h : WL w G off n zs) (hi : i < n) (x : Int) : WL (w.setCell ⟨G, off + i, none⟩ (.int .i64 x)) G off n (zs.set i x) := by
  refine ⟨by rw [List.length_set]; exact h.len, by simp; exact h.lt, fun j z hz => ?_, fun j hj => by rw [World.frozen?_setCell]; exact h.z j hj⟩
  by_cases e : j = i
  · subst e
    have hl := h.len
    rw [List.getElem?_set_self (by omega)] at hz
    obtain rfl := Option.some.inj hz
    exact World.cell?_setCell_same' w _ _ (by rw [h.c j _ (List.getElem?_eq_getElem (by omega))]; rfl)
  · rw [List.getElem?_set_ne (fun k => e k.symm)] at hz
    exact (World.cell?_setCell_other _ _ _ _ (by intro k; have := congrArg Addr.off k; simp at this; omega)).trans (h.c j z hz)
theorem WL.own {w : World} {v : Value} {n : Nat} {zs : List Int} {base : Nat} {e : TypeId} (hl : zs.length = n) (hn : 0 < n) (h : w.ownsRow base e 1 v n (zs.map (Value.int .i64))) : ∃ G cap, v = .slice (some ⟨G, 0, none⟩) n cap ∧ base ≤ G ∧ WL w G 0 n zs := by
  rcases ownsRow_form' h with ⟨rfl, h2⟩ | ⟨g, cap, rfl, h1, h2, h3, h4⟩
  · omega
  · refine ⟨g, cap, rfl, h1, hl, h2, fun j z hz => ?_, fun j hj => ownsRow_frozen h _⟩
    have hlt := (List.getElem?_eq_some_iff.1 hz).1
    rw [Nat.zero_add, h.cellAt j (by omega), List.getElem?_map, hz]; rfl
theorem run_store_int (P : Program) (a : Addr) (x : Int) (m : Mode) (w : World) : (store a (.int .i64 x) m).run P w = stored P w a (.int .i64 x) m := run_store P w a _ m rfl
theorem IL.touch {w w' : World} {g n : Nat} {p : Option Addr} {zs : List Int} (h : IL w p n zs) (k : Touch g w w') (hne : ∀ B off, p = some ⟨B, off, none⟩ → B ≠ g) : IL w' p n zs := by
  refine ⟨h.len, ?_⟩
  rcases h.form with h | ⟨B, off, h1, h2, h3⟩
  · exact Or.inl h
  · exact Or.inr ⟨B, off, h1, Nat.lt_of_lt_of_le h2 k.below.size, fun j z hz => (k.cell (p := ⟨B, off + j, none⟩) h2 (hne B off h1)).trans (h3 j z hz)⟩
/-- what was made behind a call turns -/
theorem Bel.then {a w w' : World} {g : Nat} (h : Bel a w) (k : Touch g w w') (hg : a.heap.size ≤ g) : Bel a w' := Below.trans h (Below.mono k.below hg)
end Go.Proofs.Ytniljnidpcgjgaa
