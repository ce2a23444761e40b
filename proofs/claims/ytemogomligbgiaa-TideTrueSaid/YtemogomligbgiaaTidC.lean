/- TidC: words of the stretches. -/
import Derived.Test.YtemogomligbgiaaTidB
import Derived.RangeFuncNested
import Derived.LoopTactic
import Derived.Deep.DeepCutAuto
import Derived.Deep.QuietTactic
import Derived.RangeFuncBound
import Derived.RangeFuncCalls
import Derived.RangeFuncLeaves
import Derived.Shelf.Abstract
import Derived.Shelf.RegionOpen
import Derived.WalkKit
import Derived.OwnWalkIn
import Derived.TacticsInMore
import Derived.LoopNIn
import Derived.LoopIn
import Derived.Outline
import Derived.IntWalk
import Derived.Lib.Hide
import Derived.StillTailTactics
import Derived.BigRegion
import Derived.Deep.RegionWith
import Derived.RangeFuncBox
import Derived.Maps.AppendAt
namespace Go.Proofs.Ytemogomligbgiaa.Ti
open Go.RowKit Go.Shelf Sp
set_option linter.unusedSimpArgs false
set_option linter.unusedVariables false

attribute [local go_sem] Oper.semAt_some
/-- A stretch of a valid table. -/
def okX (x : St) : Bool := decide (0 ≤ x.1.1) && (decide (x.1.1 ≤ x.1.2) && (decide (x.1.2 ≤ 10000000) && okH x.2))
theorem okX_iff {x : St} : okX x = true ↔ (0 ≤ x.1.1 ∧ x.1.1 ≤ x.1.2 ∧ x.1.2 ≤ 10000000) ∧ okH x.2 = true := by simp only [okX, Bool.and_eq_true, decide_eq_true_eq]; exact ⟨fun ⟨a, b, c, d⟩ => ⟨⟨a, b, c⟩, d⟩, fun ⟨⟨a, b, c⟩, d⟩ => ⟨a, b, c, d⟩⟩
abbrev Se := { v : St // okX v = true }
instance : Inhabited Se := ⟨⟨((0, 0), (0, 0)), by decide⟩⟩
def toS (v : St) : Se := if h : okX v = true then ⟨v, h⟩ else default
theorem toS_val {v : St} (h : okX v = true) : (toS v).1 = v := by unfold toS; rw [dif_pos h]
theorem str_okX {s p : Int} {l : List Pr} (hv : vaT s p l = true) {n : Nat} (hn : n ≤ l.length) {X : St} (h : X ∈ stK s p l n) : okX X = true := by
  obtain ⟨h1, h2, h3, h4, h5⟩ := vaT_iff.1 hv
  obtain ⟨a, b, c, _⟩ := str_at (by omega) h
  have m := Int.mul_le_mul_of_nonneg_right (a := (n : Int) - 1) (b := (l.length : Int) - 1) (c := p) (by omega) (by omega)
  unfold laT at h4
  exact okX_iff.2 ⟨⟨by omega, a, by omega⟩, str_ok h5 h⟩
def strS (s p : Int) (l : List Pr) (k : Nat) : List Se := (stK s p l k).map toS
theorem strS_val {s p : Int} {l : List Pr} (hv : vaT s p l = true) {k : Nat} (hk : k ≤ l.length) : (strS s p l k).map (·.1) = stK s p l k := by
  unfold strS
  rw [List.map_map]
  refine (List.map_congr_left (f := (·.1) ∘ toS) (g := id) (fun X hX => ?_)).trans (List.map_id _)
  exact toS_val (str_okX hv hk hX)
theorem strS_len (s p : Int) (l : List Pr) (k : Nat) : (strS s p l k).length ≤ 2 * k := by unfold strS; rw [List.length_map]; exact stK_len s p l k
theorem strS_prefix {s p : Int} {l : List Pr} {k n : Nat} (h : k ≤ n) : strS s p l k <+: strS s p l n := by
  obtain ⟨t, ht⟩ := stK_prefix (s := s) (p := p) (l := l) h
  unfold strS
  rw [← ht, List.map_append]
  exact List.prefix_append _ _
theorem strS_mid {s p : Int} {l : List Pr} {k : Nat} (h0 : 0 < k) (h1 : 1 < p) : strS s p l (k + 1) = strS s p l k ++ [toS (mdS s p l k)] ++ [toS (ptS s p l k)] := by
  unfold strS
  simp only [stK]
  rw [if_pos ⟨h0, h1⟩]
  simp
theorem strS_no {s p : Int} {l : List Pr} {k : Nat} (h : ¬ (0 < k ∧ 1 < p)) : strS s p l (k + 1) = strS s p l k ++ [toS (ptS s p l k)] := by
  unfold strS
  simp only [stK]
  rw [if_neg h]
  simp
def encS (x : Se) : Array Value := #[.agg #[(.int .i64 (x.1.1.1)), (.int .i64 (x.1.1.2))], .agg #[(.int .i64 (x.1.2.1)), (.int .i64 (x.1.2.2))]]
theorem yres2 {A B : World → Prop} {e : Ending} {W : World} (h : (e = .returned (.bool true) ∧ A W) ∨ (e = .returned (.bool false) ∧ B W)) : (e = .returned (.bool true) ∧ Hid (A W)) ∨ (e = .returned (.bool false) ∧ Hid (B W)) := h

/-- What a round leaves of the boxes of rows: all, but those of M. -/
structure Kee (M : List Nat) (A B : World) : Prop where
  size : A.heap.size ≤ B.heap.size
  cells : ∀ k c z, k ∉ M → A.heap[k]? = some (.cells c 62 z) → B.heap[k]? = some (.cells c 62 z)
theorem Kee.refl (M : List Nat) (A : World) : Kee M A A := ⟨Nat.le_refl _, fun _ _ _ _ h => h⟩
theorem Kee.trans {M : List Nat} {A B C : World} (h : Kee M A B) (k : Kee M B C) : Kee M A C := ⟨Nat.le_trans h.size k.size, fun i c z hn hi => k.cells i c z hn (h.cells i c z hn hi)⟩
theorem Kee.below {M : List Nat} {A B : World} (h : Below A.heap.size A B) : Kee M A B := ⟨h.size, fun i c z _ hi => (h.block i (Array.getElem?_eq_some_iff.1 hi).1).trans hi⟩
theorem Kee.putObj {M : List Nat} {W : World} {l : Nat} {o : Obj} (o' : Obj) (h : W.heap[l]? = some o) (h1 : o.isCells = false) : Kee M W (W.putObj l o') :=
  ⟨by simp [World.putObj], fun i c z _ hi => by
    by_cases e : i = l
    · subst e; rw [hi] at h; cases h; cases h1
    · have hg := grownBy_putObj' W l o'
      exact (hg.block i (Array.getElem?_eq_some_iff.1 hi).1 (by simpa using e)).trans hi⟩
theorem Kee.grown {M : List Nat} {A B : World} {row : Option Nat} (h : A.grownBy B row) (hr : ∀ g c z, row = some g → A.heap[g]? ≠ some (.cells c 62 z)) : Kee M A B :=
  ⟨h.size, fun i c z _ hi => (h.block i (Array.getElem?_eq_some_iff.1 hi).1 (fun e => hr i c z e.symm hi)).trans hi⟩
theorem Kee.set {M : List Nat} {A B : World} (h : Kee M A B) {p : Addr} (hp : p.block ∈ M) (u : Value) : Kee M A (B.setCell p u) :=
  h.trans ⟨by simp [World.setCell], fun i c z hn hi => (Below.heap_setCell _ _ _ _ (fun e => by subst e; exact hn hp)).trans hi⟩
structure Kp (M : List Nat) (m : Nat) (A B : World) : Prop where
  but : But M m A B
  kee : Kee M A B
theorem Kp.refl (M : List Nat) (m : Nat) (A : World) : Kp M m A A := ⟨But.refl _ _ _, Kee.refl _ _⟩
theorem Kp.trans {M : List Nat} {m : Nat} {A B C : World} (h : Kp M m A B) (k : Kp M m B C) : Kp M m A C := ⟨h.but.trans k.but, h.kee.trans k.kee⟩
theorem Kp.below {M : List Nat} {m : Nat} {A B : World} (h : Below A.heap.size A B) (hm : m ≤ A.heap.size) : Kp M m A B := ⟨But.of_below h hm, Kee.below h⟩
theorem Kp.set {M : List Nat} {m : Nat} {A B : World} (h : Kp M m A B) {p : Addr} (hp : p.block ∈ M) (u : Value) : Kp M m A (B.setCell p u) := ⟨h.but.set (.inl hp) u, h.kee.set hp u⟩
theorem Kp.alloc {M : List Nat} {m : Nat} {A B : World} (h : Kp M m A B) (hm : m ≤ B.heap.size) (o : Obj) : Kp M m A (B.alloc o) :=
  h.trans (Kp.below ((Below.refl _ B).alloc (Nat.le_refl _) o) hm)
theorem kp_t {M : List Nat} {m : Nat} {A B C : World} (h : Kp M m A B) (k : Kp M m B C) : Kp M m A C := h.trans k
theorem kp_b {M : List Nat} {m : Nat} {w : World} (hn : m ≤ w.heap.size) (W : World) (l : Nat) (o o' : Obj) (hl : w.heap.size ≤ l) (h : W.heap[l]? = some o) (h1 : o.isCells = false) (h2 : o.isWalk = false) : Kp M m W (W.putObj l o') :=
  ⟨but_b hn W l o o' hl h h1 h2, Kee.putObj o' h h1⟩
theorem ownFrom_kp {β : Type} {M : List Nat} {m B : Nat} {w₀ : World} (hB : m ≤ B) (hs : m ≤ w₀.heap.size) : OwnFrom B (fun (_ : β) W => Kp M m w₀ W) := by
  intro s X Y row h hg hr
  refine ⟨ownFrom_but (β := β) hB hs s X Y row h.but hg hr, h.kee.trans ⟨hg.size, fun i c z hn hi => ?_⟩⟩
  refine (hg.block i (Array.getElem?_eq_some_iff.1 hi).1 (fun e => ?_)).trans hi
  obtain ⟨_, ob, ho, hc⟩ := hr i e.symm
  rw [hi] at ho
  cases ho
  cases hc

/-- A box of a row. -/
def Typ (W : World) (g : Nat) : Prop := ∃ c z, W.heap[g]? = some (.cells c 62 z)
theorem Typ.new (W : World) (c : Array Value) : Typ (W.alloc (.cells c 62)) W.heap.size := ⟨_, _, World.alloc_heap_new W _⟩
theorem Typ.lt {W : World} {g : Nat} (h : Typ W g) : g < W.heap.size := by obtain ⟨c, z, h⟩ := h; exact (Array.getElem?_eq_some_iff.1 h).1
theorem Typ.below {W W' : World} {g : Nat} (h : Typ W g) (hb : Below W.heap.size W W') : Typ W' g := by
  have hl := h.lt
  obtain ⟨c, z, h⟩ := h
  exact ⟨c, z, (hb.block g hl).trans h⟩
theorem Typ.set {W : World} {g : Nat} (h : Typ W g) (b o : Nat) (u : Value) : Typ (W.setCell ⟨b, o, none⟩ u) g := by
  obtain ⟨c, z, h⟩ := h
  by_cases e : b = g
  · subst e
    obtain ⟨hlt, hk⟩ := Array.getElem?_eq_some_iff.1 h
    refine ⟨c.setIfInBounds o u, z, ?_⟩
    show (W.heap.modify b _)[b]? = _
    rw [Array.getElem?_eq_getElem (by rw [Array.size_modify]; exact hlt), Array.getElem_modify_self, hk]
    rfl
  · exact ⟨c, z, (Below.heap_setCell _ _ _ _ (fun h => e h.symm)).trans h⟩
theorem Kee.typ {M : List Nat} {A B : World} (h : Kee M A B) {g : Nat} (ht : Typ A g) (hn : g ∉ M) : Typ B g ∧ ∀ o, B.cell? ⟨g, o, none⟩ = A.cell? ⟨g, o, none⟩ := by
  obtain ⟨c, z, ht⟩ := ht
  have := h.cells g c z hn ht
  exact ⟨⟨c, z, this⟩, fun o => by simp [World.cell?, this, ht]⟩
theorem row_i (s p kk : Int) (k b off cap : Nat) (l : List Pr) (w : World) (hkk : kk = k) (hk : k < l.length) (h200 : l.length ≤ 200) (hr : Row w b off l) : Calls Try.prog 63 #[.agg #[(.int .i64 s), (.int .i64 p), .slice (some ⟨b, off, none⟩) l.length cap], (.int .i64 kk)] w (Ret w (.agg #[(.int .i64 ((gt l k).1)), (.int .i64 ((gt l k).2))])) := by
  subst hkk
  exact row_c s p k b off cap l w hk h200 hr
theorem time_i (s p kk k : Int) (v : Value) (w : World) (hkk : kk = k) (hs : 0 ≤ s ∧ s ≤ 10000000) (hp : 1 ≤ p ∧ p ≤ 1000) (hk : 0 ≤ k ∧ k ≤ 200) : Calls Try.prog 62 #[.agg #[(.int .i64 s), (.int .i64 p), v], (.int .i64 kk)] w (Ret w (.int .i64 (s + k * p))) := by
  subst hkk
  exact time_c s p kk v w hs hp hk


end Go.Proofs.Ytemogomligbgiaa.Ti
