/- Blocks of floats and of complex numbers, by what stands at each place; made, written, read. -/
import Derived.Test.YtnclnbbnkfolgaaRow6
namespace Go.Proofs.Ytnclnbbnkfolgaa
open Go.RowKit

/-- a block of floats -/
structure FArr (w : World) (g n : Nat) (F : Nat → Nat) : Prop where
  c : ∀ j, j < n → w.cell? ⟨g, j, none⟩ = some (.float .f64 (F j))
  z : ∀ j, j < n → w.frozen? ⟨g, j, none⟩ = false
/-- a block of complex numbers -/
structure CArr (w : World) (g n : Nat) (F : Nat → Nat × Nat) : Prop where
  c0 : ∀ j, j < n → w.cell? ⟨g, j * 2, none⟩ = some (.float .f64 (F j).1)
  c1 : ∀ j, j < n → w.cell? ⟨g, j * 2 + 1, none⟩ = some (.float .f64 (F j).2)
  z0 : ∀ j, j < n → w.frozen? ⟨g, j * 2, none⟩ = false
  z1 : ∀ j, j < n → w.frozen? ⟨g, j * 2 + 1, none⟩ = false
theorem FArr.bel {w w' : World} {g n : Nat} {F : Nat → Nat} (h : FArr w g n F) (k : Bel w w') (hg : g < w.heap.size) : FArr w' g n F :=
  ⟨fun j hj => (k.cell hg).trans (h.c j hj), fun j hj => (k.frozen hg).trans (h.z j hj)⟩
theorem CArr.bel {w w' : World} {g n : Nat} {F : Nat → Nat × Nat} (h : CArr w g n F) (k : Bel w w') (hg : g < w.heap.size) : CArr w' g n F :=
  ⟨fun j hj => (k.cell hg).trans (h.c0 j hj), fun j hj => (k.cell hg).trans (h.c1 j hj), fun j hj => (k.frozen hg).trans (h.z0 j hj), fun j hj => (k.frozen hg).trans (h.z1 j hj)⟩
theorem FArr.off {w : World} {g n X k : Nat} {F : Nat → Nat} (h : FArr w g n F) (hX : g ≠ X) (u : Value) : FArr (w.setCell ⟨X, k, none⟩ u) g n F :=
  ⟨fun j hj => (World.cell?_setCell_other _ _ _ _ (by intro e; exact hX (congrArg Addr.block e).symm)).trans (h.c j hj), fun j hj => by rw [World.frozen?_setCell]; exact h.z j hj⟩
theorem CArr.off {w : World} {g n X k : Nat} {F : Nat → Nat × Nat} (h : CArr w g n F) (hX : g ≠ X) (u : Value) : CArr (w.setCell ⟨X, k, none⟩ u) g n F :=
  ⟨fun j hj => (World.cell?_setCell_other _ _ _ _ (by intro e; exact hX (congrArg Addr.block e).symm)).trans (h.c0 j hj), fun j hj => (World.cell?_setCell_other _ _ _ _ (by intro e; exact hX (congrArg Addr.block e).symm)).trans (h.c1 j hj), fun j hj => by rw [World.frozen?_setCell]; exact h.z0 j hj, fun j hj => by rw [World.frozen?_setCell]; exact h.z1 j hj⟩
theorem FArr.set {w : World} {g n i : Nat} {F : Nat → Nat} (h : FArr w g n F) (hi : i < n) (x : Nat) : FArr (w.setCell ⟨g, i, none⟩ (.float .f64 x)) g n (fun j => if j = i then x else F j) := by
  refine ⟨fun j hj => ?_, fun j hj => by rw [World.frozen?_setCell]; exact h.z j hj⟩
  by_cases e : j = i
  · subst e
    rw [if_pos rfl]
    exact World.cell?_setCell_same' w _ _ (by rw [h.c j hj]; rfl)
  · rw [if_neg e]
    exact (World.cell?_setCell_other _ _ _ _ (by intro k; exact e (congrArg Addr.off k).symm)).trans (h.c j hj)
theorem CArr.mid {w : World} {g n i : Nat} {F : Nat → Nat × Nat} (h : CArr w g n F) (hi : i < n) (u : Value) : (w.setCell ⟨g, i * 2, none⟩ u).cell? ⟨g, i * 2 + 1, none⟩ = some (.float .f64 (F i).2) ∧ (w.setCell ⟨g, i * 2, none⟩ u).frozen? ⟨g, i * 2 + 1, none⟩ = false :=
  ⟨(World.cell?_setCell_other _ _ _ _ (by intro k; have := congrArg Addr.off k; simp at this)).trans (h.c1 i hi), by rw [World.frozen?_setCell]; exact h.z1 i hi⟩
theorem CArr.set {w : World} {g n i : Nat} {F : Nat → Nat × Nat} (h : CArr w g n F) (hi : i < n) (x y : Nat) : CArr ((w.setCell ⟨g, i * 2, none⟩ (.float .f64 x)).setCell ⟨g, i * 2 + 1, none⟩ (.float .f64 y)) g n (fun j => if j = i then (x, y) else F j) := by
  refine ⟨fun j hj => ?_, fun j hj => ?_, fun j hj => by rw [World.frozen?_setCell, World.frozen?_setCell]; exact h.z0 j hj, fun j hj => by rw [World.frozen?_setCell, World.frozen?_setCell]; exact h.z1 j hj⟩
  · refine (World.cell?_setCell_other _ _ _ _ (by intro k; have := congrArg Addr.off k; simp at this; omega)).trans ?_
    by_cases e : j = i
    · subst e
      simp only [if_pos]
      exact World.cell?_setCell_same' w _ _ (by rw [h.c0 j hj]; rfl)
    · rw [if_neg e]
      exact (World.cell?_setCell_other _ _ _ _ (by intro k; have := congrArg Addr.off k; simp at this; omega)).trans (h.c0 j hj)
  · by_cases e : j = i
    · subst e
      simp only [if_pos]
      exact World.cell?_setCell_same' _ _ _ (by rw [(h.mid hj _).1]; rfl)
    · rw [if_neg e]
      exact (World.cell?_setCell_other _ _ _ _ (by intro k; have := congrArg Addr.off k; simp at this; omega)).trans ((World.cell?_setCell_other _ _ _ _ (by intro k; have := congrArg Addr.off k; simp at this; omega)).trans (h.c1 j hj))
theorem made_at (z : Array Value) (n k : Nat) (hk : k < n) : (madeCells z n)[k]? = some (z[k % z.size]!) := by
  unfold madeCells
  rw [Array.getElem?_map, Array.getElem?_range, if_pos hk]; rfl
theorem FArr.made (w : World) (n : Nat) (t : TypeId) (N : Nat) (h : N = w.heap.size) : FArr (w.alloc (.cells (madeCells #[.float .f64 0] n) t)) N n (fun _ => 0) := by
  refine ⟨fun j hj => ?_, fun j hj => fr_new6 _ _ _ _ _ h⟩
  refine (World.cell?_alloc_at _ _ _ _ h).trans ?_
  rw [made_at _ _ _ hj]
  simp [Nat.mod_one]
theorem CArr.made (w : World) (n : Nat) (t : TypeId) (N : Nat) (h : N = w.heap.size) : CArr (w.alloc (.cells (madeCells #[.float .f64 0, .float .f64 0] (n * 2)) t)) N n (fun _ => (0, 0)) := by
  refine ⟨fun j hj => ?_, fun j hj => ?_, fun j hj => fr_new6 _ _ _ _ _ h, fun j hj => fr_new6 _ _ _ _ _ h⟩
  · refine (World.cell?_alloc_at _ _ _ _ h).trans ?_
    rw [made_at _ _ _ (by omega)]
    have e : j * 2 % 2 = 0 := by omega
    simp [e]
  · refine (World.cell?_alloc_at _ _ _ _ h).trans ?_
    rw [made_at _ _ _ (by omega)]
    have e : (j * 2 + 1) % 2 = 1 := by omega
    simp [e]
theorem CArr.congr {w : World} {g n : Nat} {F E : Nat → Nat × Nat} (h : CArr w g n F) (e : ∀ j, j < n → F j = E j) : CArr w g n E :=
  ⟨fun j hj => by rw [← e j hj]; exact h.c0 j hj, fun j hj => by rw [← e j hj]; exact h.c1 j hj, h.z0, h.z1⟩
theorem FArr.congr {w : World} {g n : Nat} {F E : Nat → Nat} (h : FArr w g n F) (e : ∀ j, j < n → F j = E j) : FArr w g n E :=
  ⟨fun j hj => by rw [← e j hj]; exact h.c j hj, h.z⟩
/-- a list of floats as a slice is a block of floats -/
theorem FRow6.arr {w : World} {g cap base n : Nat} {l : List Nat} (h : FRow6 w (.slice (some ⟨g, 0, none⟩) n cap) l base) : l.length = n ∧ g < w.heap.size ∧ n ≤ cap ∧ FArr w g n (fun j => l.getD j 0) := by
  rcases h.form with ⟨h, _⟩ | ⟨g', cap', h1, h2, h3, h4, h5, h6⟩
  · cases h
  · injection h1 with h1 h7 h8
    injection h1 with h1
    injection h1 with h1
    subst h1 h7 h8
    refine ⟨rfl, h3, h4, fun j hj => ?_, fun j hj => ?_⟩
    · rw [List.getD_eq_getElem?_getD, List.getElem?_eq_getElem hj]
      exact (h6 j _ (List.getElem?_eq_getElem hj)).1
    · exact (h6 j _ (List.getElem?_eq_getElem hj)).2
theorem CRow6.arr {w : World} {g cap base n : Nat} {l : List (Nat × Nat)} (h : CRow6 w (.slice (some ⟨g, 0, none⟩) n cap) l base) : l.length = n ∧ g < w.heap.size ∧ n ≤ cap ∧ CArr w g n (fun j => l.getD j (0, 0)) := by
  rcases h.form with ⟨h, _⟩ | ⟨g', cap', h1, h2, h3, h4, h5, h6⟩
  · cases h
  · injection h1 with h1 h7 h8
    injection h1 with h1
    injection h1 with h1
    subst h1 h7 h8
    have key : ∀ j, j < l.length → l[j]? = some (l.getD j (0, 0)) := fun j hj => by rw [List.getD_eq_getElem?_getD, List.getElem?_eq_getElem hj]; rfl
    exact ⟨rfl, h3, h4, fun j hj => (h6 j _ (key j hj)).1, fun j hj => (h6 j _ (key j hj)).2.1, fun j hj => (h6 j _ (key j hj)).2.2.1, fun j hj => (h6 j _ (key j hj)).2.2.2⟩
theorem FArr.row {w : World} {g n base : Nat} {F : Nat → Nat} {l : List Nat} (h : FArr w g n F) (hl : l.length = n) (hF : ∀ j, j < n → l[j]? = some (F j)) (hb : base ≤ g) (hg : g < w.heap.size) (hm : n ≤ maxLen) : FRow6 w (.slice (some ⟨g, 0, none⟩) n n) l base := by
  subst hl
  refine ⟨Or.inr ⟨g, _, rfl, hb, hg, Nat.le_refl _, hm, fun i x hx => ?_⟩⟩
  have hi := (List.getElem?_eq_some_iff.1 hx).1
  obtain rfl : F i = x := by rw [hF i hi] at hx; exact Option.some.inj hx
  exact ⟨h.c i hi, h.z i hi⟩
theorem CArr.row {w : World} {g n base : Nat} {F : Nat → Nat × Nat} {l : List (Nat × Nat)} (h : CArr w g n F) (hl : l.length = n) (hF : ∀ j, j < n → l[j]? = some (F j)) (hb : base ≤ g) (hg : g < w.heap.size) (hm : n ≤ maxLen) : CRow6 w (.slice (some ⟨g, 0, none⟩) n n) l base := by
  subst hl
  refine ⟨Or.inr ⟨g, _, rfl, hb, hg, Nat.le_refl _, hm, fun i x hx => ?_⟩⟩
  have hi := (List.getElem?_eq_some_iff.1 hx).1
  obtain rfl : F i = x := by rw [hF i hi] at hx; exact Option.some.inj hx
  exact ⟨h.c0 i hi, h.c1 i hi, h.z0 i hi, h.z1 i hi⟩
theorem index_f (g n cap i : Nat) (hi : i < n) (w : World) : (Instr.indexAt 45 (.slice (some ⟨g, 0, none⟩) n cap) (.int .i64 (i : Int))).run Try.prog w = .ok (.pointer (some ⟨g, i, none⟩)) w := by
  simp [go_sem, hi]
theorem index_c (g n cap i : Nat) (hi : i < n) (w : World) : (Instr.indexAt 38 (.slice (some ⟨g, 0, none⟩) n cap) (.int .i64 (i : Int))).run Try.prog w = .ok (.pointer (some ⟨g, i * 2, none⟩)) w := by
  simp [go_sem, hi]
theorem cplx_info : (Try.prog.info? 25).map (fun i => (i.zero, i.size, i.bytes)) = some (some (.agg #[.float .f64 0, .float .f64 0]), 2, 16) := by kernel_rfl
theorem float_info : (Try.prog.info? 23).map (fun i => (i.zero, i.size, i.bytes)) = some (some (.float .f64 0), 1, 8) := by kernel_rfl
theorem make_c (n : Nat) (hn : n * 16 ≤ 281474976710656) (w : World) : (Instr.makeSlice 38 (.int .i64 (n : Int)) (.int .i64 (n : Int))).run Try.prog w = .ok (.slice (some ⟨w.heap.size, 0, none⟩) n n) (w.alloc (.cells (madeCells #[.float .f64 0, .float .f64 0] (n * 2)) 25)) := by
  obtain ⟨i0, hi, hz0, hz1, hz2⟩ := info_parts cplx_info
  have h := run_make (P := Try.prog) w 38 25 i0 _ Try.underlying38 hi hz0 .i64 .i64 n n (by omega) (Int.le_refl _) (by rw [hz2]; omega) (by omega)
  rw [hz1] at h
  exact h
theorem make_f (n : Nat) (hn : n * 16 ≤ 281474976710656) (w : World) : (Instr.makeSlice 45 (.int .i64 (n : Int)) (.int .i64 (n : Int))).run Try.prog w = .ok (.slice (some ⟨w.heap.size, 0, none⟩) n n) (w.alloc (.cells (madeCells #[.float .f64 0] n) 23)) := by
  obtain ⟨i0, hi, hz0, hz1, hz2⟩ := info_parts float_info
  have h := run_make (P := Try.prog) w 45 23 i0 _ Try.underlying45 hi hz0 .i64 .i64 n n (by omega) (Int.le_refl _) (by rw [hz2]; omega) (by omega)
  rw [hz1, Nat.mul_one] at h
  exact h
/-- one complex number stored at a place -/
theorem step_storeCat {o : Oper} {d : Option Nat} {a : Act} {w : World} {K : Act → World → Prop} {Q : Exit → Act → World → Prop} {s x : Operand} {g n i u v : Nat} {F : Nat → Nat × Nat} (hd : o.dst = d) (hop : o.op = Op.store 25 s x) (hs : a.eval s = .pointer (some ⟨g, i * 2, none⟩)) (hx : a.eval x = .agg #[.float .f64 u, .float .f64 v])
    (hT : CArr w g n F) (hi : i < n) (hK : K (a.put d undef) ((w.setCell ⟨g, i * 2, none⟩ (.float .f64 u)).setCell ⟨g, i * 2 + 1, none⟩ (.float .f64 v))) : Oper.wp Try.prog o a w K Q := by
  subst hd
  obtain ⟨m1, m2⟩ := hT.mid hi (.float .f64 u)
  have c0 := hT.c0 i hi
  have z0 := hT.z0 i hi
  have sf := run_store_float Try.prog
  unfold Oper.wp
  have hrun : (Instr.storeAt 25 (.pointer (some ⟨g, i * 2, none⟩)) (.agg #[.float .f64 u, .float .f64 v])).run Try.prog w = .ok () ((w.setCell ⟨g, i * 2, none⟩ (.float .f64 u)).setCell ⟨g, i * 2 + 1, none⟩ (.float .f64 v)) := by
    simp [go_sem, sf, c0, z0, m1, m2]
  simp [execOp, hop, hs, hx, hrun]
  exact hK
end Go.Proofs.Ytnclnbbnkfolgaa
