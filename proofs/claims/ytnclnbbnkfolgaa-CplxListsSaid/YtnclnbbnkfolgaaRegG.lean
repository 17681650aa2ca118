/- A region that draws its order, of calls, reads and new blocks of two floats: by what each operation leaves. -/
import Derived.Test.YtnclnbbnkfolgaaStepN
namespace Go.Proofs.Ytnclnbbnkfolgaa
open Go.RowKit

/-- a new block: the operation that makes it, its temporary, the operation that fills it, the temporary that is stored and the operation that leaves it -/
structure Blk where
  a : Nat
  p : Nat
  s : Nat
  v : Nat
  vo : Nat
/-- what operations leave: the operation, its temporary, what holds of the value -/
abbrev Leaves := List (Nat × Nat × (Value → Prop))
def GV (ps : Leaves) (D : Nat → Bool) (f : Nat → Value) : Prop := ∀ c ∈ ps, D c.1 = true → c.2.2 (f c.2.1)
structure RegI (ps : Leaves) (bs : List Blk) (w1 : World) (D : Nat → Bool) (f : Nat → Value) (w : World) : Prop where
  bel : Bel w1 w
  gv : GV ps D f
  bk : ∀ b ∈ bs, D b.a = true → BlkV w1 w (D b.s = true) (f b.p) (f b.v)
  ne : ∀ b ∈ bs, ∀ b' ∈ bs, b.a ≠ b'.a → D b.a = true → D b'.a = true → f b.p ≠ f b'.p
  o : ∀ b ∈ bs, D b.s = true → D b.a = true ∧ D b.vo = true
/-- operations and temporaries are apart: closed checks -/
structure Apart (ps : Leaves) (bs : List Blk) : Prop where
  n1 : (ps.map (·.1)).Nodup
  n2 : (ps.map (·.2.1)).Nodup
  n3 : (bs.map (·.a)).Nodup
  n4 : (bs.map (·.p)).Nodup
  n5 : (bs.map (·.s)).Nodup
  x : ∀ c ∈ ps, ∀ b ∈ bs, c.1 ≠ b.a ∧ c.1 ≠ b.s ∧ c.2.1 ≠ b.p
  y : ∀ b ∈ bs, ∀ b' ∈ bs, b.a ≠ b'.s
  z : ∀ b ∈ bs, ∃ φ, (b.vo, b.v, φ) ∈ ps
section
variable {ps : Leaves} {bs : List Blk} {w1 : World} {D : Nat → Bool} {f : Nat → Value} {w : World}
theorem Apart.one (h : Apart ps bs) {c c' : Nat × Nat × (Value → Prop)} (hc : c ∈ ps) (hc' : c' ∈ ps) (e : c.1 = c'.1) : c = c' := nodup_one h.n1 c hc c' hc' e
theorem Apart.tmp (h : Apart ps bs) {c c' : Nat × Nat × (Value → Prop)} (hc : c ∈ ps) (hc' : c' ∈ ps) (e : c.2.1 = c'.2.1) : c = c' := nodup_one h.n2 c hc c' hc' e
theorem RegI.value (hA : Apart ps bs) (h : RegI ps bs w1 D f w) {i t : Nat} {φ : Value → Prop} (hm : (i, t, φ) ∈ ps) (hD : D i = false) {v : Value} (hv : φ v) {w' : World} (g : Bel w w') : RegI ps bs w1 (fun k => D k || k == i) (tset f t v) w' := by
  have na : ∀ b ∈ bs, b.a ≠ i := fun b hb e => (hA.x _ hm b hb).1 e.symm
  have ns : ∀ b ∈ bs, b.s ≠ i := fun b hb e => (hA.x _ hm b hb).2.1 e.symm
  have np : ∀ b ∈ bs, b.p ≠ t := fun b hb e => (hA.x _ hm b hb).2.2 e.symm
  refine ⟨h.bel.trans g, fun c hc hd => ?_, fun b hb hd => ?_, fun b hb b' hb' hne hd hd' => ?_, fun b hb hd => (h.o b hb (dn (ns b hb) hd)).imp dup dup⟩
  · by_cases e : c.1 = i
    · have := hA.one hc hm e
      subst this
      rw [tset_self]
      exact hv
    · rw [tset_ne _ _ (fun e2 => e (by rw [hA.tmp hc hm e2]))]
      exact h.gv c hc (dn e hd)
  · have hb1 := (h.bk b hb (dn (na b hb) hd)).bel g
    rw [tset_ne _ _ (np b hb)]
    by_cases e : b.v = t
    · obtain ⟨φ', hz⟩ := hA.z b hb
      have e2 := hA.tmp hz hm e
      have e3 : b.vo = i := congrArg (·.1) e2
      have hns : ¬ D b.s = true := fun hs => by
        have := (h.o b hb hs).2
        rw [e3, hD] at this
        exact Bool.false_ne_true this
      exact (hb1.turn hns).imp (dn (ns b hb))
    · rw [tset_ne _ _ e]
      exact hb1.imp (dn (ns b hb))
  · rw [tset_ne _ _ (np b hb), tset_ne _ _ (np b' hb')]
    exact h.ne b hb b' hb' hne (dn (na b hb) hd) (dn (na b' hb') hd')
theorem RegI.alloc (hA : Apart ps bs) (h : RegI ps bs w1 D f w) {b : Blk} (hb : b ∈ bs) (hD : D b.a = false) (ty : TypeId) : RegI ps bs w1 (fun k => D k || k == b.a) (tset f b.p (.pointer (some ⟨w.heap.size, 0, none⟩))) (w.alloc (.cells #[.float .f64 0, .float .f64 0] ty)) := by
  have hns : ¬ D b.s = true := fun hs => by
    have := (h.o b hb hs).1
    rw [hD] at this
    exact Bool.false_ne_true this
  have nv : ∀ b' ∈ bs, b'.v ≠ b.p := fun b' hb' e => by
    obtain ⟨φ', hz⟩ := hA.z b' hb'
    exact (hA.x _ hz b hb).2.2 e
  have ns : ∀ b' ∈ bs, b'.s ≠ b.a := fun b' hb' e => hA.y b hb b' hb' e.symm
  have np : ∀ b' ∈ bs, b'.a ≠ b.a → b'.p ≠ b.p := fun b' hb' e e2 => e (by rw [nodup_one hA.n4 b' hb' b hb e2])
  have g : Bel w (w.alloc (.cells #[.float .f64 0, .float .f64 0] ty)) := (Bel.refl w).alloc _
  refine ⟨h.bel.trans g, fun c hc hd => ?_, fun b' hb' hd => ?_, fun b' hb' b'' hb'' hne hd hd' => ?_, fun b' hb' hd => (h.o b' hb' (dn (ns b' hb') hd)).imp dup dup⟩
  · rw [tset_ne _ _ (hA.x c hc b hb).2.2]
    exact h.gv c hc (dn (hA.x c hc b hb).1 hd)
  · rw [tset_ne _ _ (nv b' hb')]
    by_cases e : b'.a = b.a
    · have := nodup_one hA.n3 b' hb' b hb e
      subst this
      rw [tset_self]
      exact ⟨w.heap.size, 0, 0, rfl, h.bel.size, Two.new .., fun hs => absurd (dn (ns b' hb') hs) hns⟩
    · rw [tset_ne _ _ (np b' hb' e)]
      exact ((h.bk b' hb' (dn e hd)).bel g).imp (dn (ns b' hb'))
  · by_cases e : b'.a = b.a
    · have := nodup_one hA.n3 b' hb' b hb e
      subst this
      have e2 : b''.a ≠ b'.a := fun e2 => hne e2.symm
      rw [tset_self, tset_ne _ _ (np b'' hb'' e2)]
      exact (h.bk b'' hb'' (dn e2 hd')).fresh.symm
    · by_cases e2 : b''.a = b.a
      · have := nodup_one hA.n3 b'' hb'' b hb e2
        subst this
        rw [tset_self, tset_ne _ _ (np b' hb' e)]
        exact (h.bk b' hb' (dn e hd)).fresh
      · rw [tset_ne _ _ (np b' hb' e), tset_ne _ _ (np b'' hb'' e2)]
        exact h.ne b' hb' b'' hb'' hne (dn e hd) (dn e2 hd')
theorem RegI.store (hA : Apart ps bs) (h : RegI ps bs w1 D f w) {b : Blk} (hb : b ∈ bs) (ha : D b.a = true) (hvo : D b.vo = true) {X u v α β : Nat} (hX : f b.p = .pointer (some ⟨X, 0, none⟩)) (hle : w1.heap.size ≤ X) (hT : Two w X α β) (hv : f b.v = .agg #[.float .f64 u, .float .f64 v]) :
    RegI ps bs w1 (fun k => D k || k == b.s) f ((w.setCell ⟨X, 0, none⟩ (.float .f64 u)).setCell ⟨X, 1, none⟩ (.float .f64 v)) := by
  have na : ∀ b' ∈ bs, b'.a ≠ b.s := fun b' hb' => hA.y b' hb' b hb
  refine ⟨(h.bel.setCell (p := ⟨X, 0, none⟩) hle _).setCell (p := ⟨X, 1, none⟩) hle _, fun c hc hd => h.gv c hc (dn (hA.x c hc b hb).2.1 hd), fun b' hb' hd => ?_, fun b' hb' b'' hb'' hne hd hd' => h.ne b' hb' b'' hb'' hne (dn (na b' hb') hd) (dn (na b'' hb'') hd'), fun b' hb' hd => ?_⟩
  · by_cases e : b'.a = b.a
    · have := nodup_one hA.n3 b' hb' b hb e
      subst this
      exact ⟨X, u, v, hX, hle, hT.set u v, fun _ => hv⟩
    · have e2 : b'.s ≠ b.s := fun e2 => e (by rw [nodup_one hA.n5 b' hb' b hb e2])
      exact ((h.bk b' hb' (dn (na b' hb') hd)).so (fun e3 => h.ne b' hb' b hb e (dn (na b' hb') hd) ha (e3.trans hX.symm)) _ _).imp (dn e2)
  · by_cases e : b'.s = b.s
    · have := nodup_one hA.n5 b' hb' b hb e
      subst this
      exact ⟨dup ha, dup hvo⟩
    · exact (h.o b' hb' (dn e hd)).imp dup dup
end
/-- one operation, by its kind -/
inductive Does (P : Program) (ops : Array Oper) (Q : Exit → Act → World → Prop) (pre : Nat → List Nat) (act : (Nat → Value) → Act) (ps : Leaves) (bs : List Blk) (w1 : World) (i : Nat) : Prop where
  | value (t : Nat) (φ : Value → Prop) (hm : (i, t, φ) ∈ ps) (h : ∀ f w, Bel w1 w → (∀ c ∈ ps, c.1 ∈ pre i → c.2.2 (f c.2.1)) → wpOp P ops Q i (fun a' w' => ∃ v, a' = act (tset f t v) ∧ φ v ∧ Bel w w') (act f) w) : Does P ops Q pre act ps bs w1 i
  | alloc (b : Blk) (hb : b ∈ bs) (hi : i = b.a) (ty : TypeId) (h : ∀ f w K, K (act (tset f b.p (.pointer (some ⟨w.heap.size, 0, none⟩)))) (w.alloc (.cells #[.float .f64 0, .float .f64 0] ty)) → wpOp P ops Q i K (act f) w) : Does P ops Q pre act ps bs w1 i
  | store (b : Blk) (hb : b ∈ bs) (hi : i = b.s) (ha : b.a ∈ pre i) (hvo : b.vo ∈ pre i) (hφ : ∀ φ, (b.vo, b.v, φ) ∈ ps → ∀ x, φ x → ∃ u v : Nat, x = .agg #[.float .f64 u, .float .f64 v])
      (h : ∀ f w K X u v α β, f b.p = .pointer (some ⟨X, 0, none⟩) → f b.v = .agg #[.float .f64 u, .float .f64 v] → Two w X α β → K (act f) ((w.setCell ⟨X, 0, none⟩ (.float .f64 u)).setCell ⟨X, 1, none⟩ (.float .f64 v)) → wpOp P ops Q i K (act f) w) : Does P ops Q pre act ps bs w1 i
/-- what stands in the new blocks in the end -/
def Filled (bs : List Blk) (w1 w : World) (f : Nat → Value) : Prop := (∀ b ∈ bs, ∃ X α β : Nat, f b.p = .pointer (some ⟨X, 0, none⟩) ∧ w1.heap.size ≤ X ∧ Two w X α β ∧ f b.v = .agg #[.float .f64 α, .float .f64 β]) ∧ ∀ b ∈ bs, ∀ b' ∈ bs, b.a ≠ b'.a → f b.p ≠ f b'.p
theorem wp_region_gv {P : Program} {ops : Array Oper} {Q : Exit → Act → World → Prop} {pre : Nat → List Nat} {id : Nat} {w1 : World} (act : (Nat → Value) → Act) (f0 : Nat → Value) (hm : P.follows .mixedOrders = true) (hc : chkN pre ops = true) (ps : Leaves) (bs : List Blk) (hA : Apart ps bs)
    (hs : ∀ i, i < ops.size → Does P ops Q pre act ps bs w1 i) (hsz : (∀ c ∈ ps, c.1 < ops.size) ∧ ∀ b ∈ bs, b.a < ops.size ∧ b.s < ops.size)
    (hQ : ∀ f w, Bel w1 w → (∀ c ∈ ps, c.2.2 (f c.2.1)) → Filled bs w1 w f → Q .normal (act f) w) : (Code.region id ops true).wp P Q (act f0) w1 := by
  refine wp_region_set (pre := pre) hm hc (fun D a w => ∃ f, a = act f ∧ RegI ps bs w1 D f w) ⟨f0, rfl, (Bel.refl w1).drew, fun _ _ h => absurd h Bool.false_ne_true, fun _ _ h => absurd h Bool.false_ne_true, fun _ _ _ _ _ h => absurd h Bool.false_ne_true, fun _ _ h => absurd h Bool.false_ne_true⟩ ?_ ?_
  · rintro D a w i hi hD hp ⟨f, rfl, hI⟩
    cases hs i hi with
    | value t φ hmem h =>
      refine wpOp_mono ?_ (h f w hI.bel fun c hc hj => hI.gv c hc (hp _ hj))
      rintro a' w' ⟨v, rfl, hv, g⟩
      exact ⟨_, rfl, hI.value hA hmem hD hv g⟩
    | alloc b hb hi' ty h =>
      subst hi'
      exact h f w _ ⟨_, rfl, hI.alloc hA hb hD ty⟩
    | store b hb hi' ha hvo hφ h =>
      have h1 := hp _ ha
      have h2 := hp _ hvo
      subst hi'
      obtain ⟨φ, hz⟩ := hA.z b hb
      obtain ⟨u, v, hv⟩ := hφ φ hz _ (hI.gv _ hz h2)
      obtain ⟨X, α, β, r1, r2, r3, _⟩ := hI.bk b hb h1
      exact h f w _ X u v α β r1 hv r3 ⟨_, rfl, hI.store hA hb h1 h2 r1 r2 r3 hv⟩
  · rintro D a w hD ⟨f, rfl, hI⟩
    refine hQ f w hI.bel (fun c hc => hI.gv c hc (hD _ (hsz.1 c hc))) ⟨fun b hb => ?_, fun b hb b' hb' hne => hI.ne b hb b' hb' hne (hD _ (hsz.2 b hb).1) (hD _ (hsz.2 b' hb').1)⟩
    obtain ⟨X, α, β, r1, r2, r3, r4⟩ := hI.bk b hb (hD _ (hsz.2 b hb).1)
    exact ⟨X, α, β, r1, r2, r3, r4 (hD _ (hsz.2 b hb).2)⟩
end Go.Proofs.Ytnclnbbnkfolgaa
