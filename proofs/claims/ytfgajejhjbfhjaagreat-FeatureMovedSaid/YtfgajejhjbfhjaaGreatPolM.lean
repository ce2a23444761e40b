/- PolM: places in a row, and what package poly asks of them, in plain words. -/
import Derived.Test.YtfgajejhjbfhjaaGreatPlaneI
import Derived.RangeFuncNested
namespace Go.Proofs.YtfgajejhjbfhjaaGreat.Po
open Go.RowKit
set_option linter.unusedVariables false

abbrev Pt := Int × Int
/-- The corner with an index; the next one; the one before. -/
def gp (l : List Pt) (i : Nat) : Pt := l.getD i (0, 0)
def nx (l : List Pt) (i : Nat) : Pt := gp l ((i + 1) % l.length)
def pv (l : List Pt) (i : Nat) : Pt := gp l ((i + l.length - 1) % l.length)
def okP (p : Pt) : Prop := ok p.1 p.2
instance (p : Pt) : Decidable (okP p) := by unfold okP; exact inferInstance
def okL (l : List Pt) : Bool := l.all fun p => okB p.1 p.2
def tu (a b c : Pt) : Int := turn a.1 a.2 b.1 b.2 c.1 c.2
def onP (q a b : Pt) : Bool := on q.1 q.2 a.1 a.2 b.1 b.2
def meP (a b c d : Pt) : Bool := meetB a.1 a.2 b.1 b.2 c.1 c.2 d.1 d.2
def crP (a b c d : Pt) : Bool := crossB a.1 a.2 b.1 b.2 c.1 c.2 d.1 d.2 && crossB c.1 c.2 d.1 d.2 a.1 a.2 b.1 b.2
def paE (q a b : Pt) : Bool :=
  if b.2 < a.2 then decide (b.2 ≤ q.2) && decide (q.2 < a.2) && decide (0 < tu b a q)
  else decide (a.2 ≤ q.2) && decide (q.2 < b.2) && decide (0 < tu a b q)
def inA (b a f t : Pt) : Bool :=
  if tu b a f < 0 then decide (0 ≤ tu b a t) || decide (0 ≤ tu a f t) else decide (0 ≤ tu b a t) && decide (0 ≤ tu a f t)

theorem paE_iff {q a b : Pt} : paE q a b = true ↔ (b.2 < a.2 ∧ b.2 ≤ q.2 ∧ q.2 < a.2 ∧ 0 < tu b a q) ∨ (a.2 ≤ b.2 ∧ a.2 ≤ q.2 ∧ q.2 < b.2 ∧ 0 < tu a b q) := by
  unfold paE
  split <;> simp only [Bool.and_eq_true, decide_eq_true_eq] <;> omega
theorem inA_iff {b a f t : Pt} : inA b a f t = true ↔ (tu b a f < 0 ∧ (0 ≤ tu b a t ∨ 0 ≤ tu a f t)) ∨ (0 ≤ tu b a f ∧ 0 ≤ tu b a t ∧ 0 ≤ tu a f t) := by
  unfold inA
  split <;> simp only [Bool.and_eq_true, Bool.or_eq_true, decide_eq_true_eq] <;> omega
theorem okL_iff {l : List Pt} : okL l = true ↔ ∀ p ∈ l, okP p := by simp [okL, okB_iff, okP]
theorem okL_gp {l : List Pt} (h : okL l = true) (i : Nat) : okP (gp l i) := by
  unfold gp
  by_cases hi : i < l.length
  · rw [List.getD_eq_getElem?_getD, List.getElem?_eq_getElem hi]
    exact okL_iff.1 h _ (List.getElem_mem hi)
  · rw [List.getD_eq_getElem?_getD, List.getElem?_eq_none (by omega)]
    simp [okP, ok]
theorem okL_nx {l : List Pt} (h : okL l = true) (i : Nat) : okP (nx l i) := okL_gp h _
theorem okL_pv {l : List Pt} (h : okL l = true) (i : Nat) : okP (pv l i) := okL_gp h _

/-- The edges. -/
abbrev Ed := { e : Pt × Pt // okP e.1 ∧ okP e.2 }
def upto {α : Type} (f : Nat → α) (k : Nat) : List α := (List.range k).map f
theorem upto_succ {α : Type} (f : Nat → α) (k : Nat) : upto f (k + 1) = upto f k ++ [f k] := by simp [upto, List.range_succ]
theorem upto_length {α : Type} (f : Nat → α) (k : Nat) : (upto f k).length = k := by simp [upto]
theorem upto_prefix {α : Type} (f : Nat → α) {k n : Nat} (h : k ≤ n) : upto f k <+: upto f n := by
  obtain ⟨m, rfl⟩ := Nat.exists_eq_add_of_le h
  induction m with
  | zero => exact List.prefix_refl _
  | succ m ih => rw [← Nat.add_assoc, upto_succ]; exact (ih (by omega)).trans (List.prefix_append _ _)
def edf (l : List Pt) (h : okL l = true) (i : Nat) : Ed := ⟨(gp l i, nx l i), okL_gp h i, okL_nx h i⟩
def eds (l : List Pt) (h : okL l = true) : List Ed := upto (edf l h) l.length
theorem eds_length (l : List Pt) (h : okL l = true) : (eds l h).length = l.length := upto_length _ _

/-- The places of l lie in block b from cell off on. -/
def Row (w : World) (b off : Nat) (l : List Pt) : Prop :=
  ∀ i, i < l.length → w.cell? ⟨b, off + i * 2, none⟩ = some (.int .i64 ((gp l i).1)) ∧ w.cell? ⟨b, off + i * 2 + 1, none⟩ = some (.int .i64 ((gp l i).2))
theorem Row.below {w W : World} {b off B : Nat} {l : List Pt} (h : Row w b off l) (hb : b < B) (hB : Below B w W) : Row W b off l :=
  fun i hi => ⟨(hB.cell (p := ⟨b, off + i * 2, none⟩) hb).trans (h i hi).1, (hB.cell (p := ⟨b, off + i * 2 + 1, none⟩) hb).trans (h i hi).2⟩
theorem Row.lt {w : World} {b off : Nat} {l : List Pt} (h : Row w b off l) (hl : 0 < l.length) : b < w.heap.size := World.block_lt_of_cell? _ _ (h 0 hl).1

/-- All that lay below block m, but the blocks of M, lies as it lay. -/
structure But (M : List Nat) (m : Nat) (w W : World) : Prop where
  os : W.os = w.os
  tape : W.tape = w.tape
  output : W.output = w.output
  size : w.heap.size ≤ W.heap.size
  block : ∀ k, k < m → k ∉ M → W.heap[k]? = w.heap[k]?
theorem But.refl (M : List Nat) (m : Nat) (w : World) : But M m w w := ⟨rfl, rfl, rfl, Nat.le_refl _, fun _ _ _ => rfl⟩
theorem But.trans {M : List Nat} {m : Nat} {a b c : World} (h : But M m a b) (k : But M m b c) : But M m a c :=
  ⟨k.os.trans h.os, k.tape.trans h.tape, k.output.trans h.output, Nat.le_trans h.size k.size, fun i hi hn => (k.block i hi hn).trans (h.block i hi hn)⟩
theorem But.of_below {M : List Nat} {m B : Nat} {w W : World} (h : Below B w W) (hm : m ≤ B) : But M m w W := ⟨h.os, h.tape, h.output, h.size, fun k hk _ => h.block k (by omega)⟩
theorem But.below {M : List Nat} {m B : Nat} {w W : World} (h : But M m w W) (hB : B ≤ m) (hM : ∀ k ∈ M, B ≤ k) : Below B w W :=
  ⟨h.os, h.tape, h.output, h.size, fun k hk => h.block k (by omega) (fun hm => by have := hM k hm; omega)⟩
theorem But.set {M : List Nat} {m : Nat} {w W : World} (h : But M m w W) {p : Addr} (hp : p.block ∈ M) (u : Value) : But M m w (W.setCell p u) :=
  h.trans ⟨rfl, rfl, rfl, by simp [World.setCell], fun k hk hn => Below.heap_setCell _ _ _ _ (fun e => hn (e ▸ hp))⟩
theorem But.cell {M : List Nat} {m : Nat} {w W : World} (h : But M m w W) {p : Addr} (hp : p.block < m) (hn : p.block ∉ M) : W.cell? p = w.cell? p := by
  have := h.block p.block hp hn
  simp [World.cell?, this]
theorem But.row {M : List Nat} {m : Nat} {w W : World} {b off : Nat} {l : List Pt} (h : But M m w W) (hb : b < m) (hn : b ∉ M) (hr : Row w b off l) : Row W b off l :=
  fun i hi => ⟨(h.cell (p := ⟨b, off + i * 2, none⟩) hb hn).trans (hr i hi).1, (h.cell (p := ⟨b, off + i * 2 + 1, none⟩) hb hn).trans (hr i hi).2⟩
theorem ownFrom_but {β : Type} {M : List Nat} {m B : Nat} {w₀ : World} (hB : m ≤ B) (hs : m ≤ w₀.heap.size) : OwnFrom B (fun (_ : β) W => But M m w₀ W) :=
  fun _ X Y row h hg hr => h.trans ⟨hg.os, hg.tape, hg.output, hg.size, fun k hk _ => hg.block k (by have := h.size; omega) (fun e => by have := (hr k e.symm).1; omega)⟩
theorem but_t {M : List Nat} {m : Nat} {A B C : World} (h : But M m A B) (k : But M m B C) : But M m A C := h.trans k
theorem but_b {M : List Nat} {m : Nat} {w : World} (hn : m ≤ w.heap.size) (W : World) (l : Nat) (o o' : Obj) (hl : w.heap.size ≤ l) (h : W.heap[l]? = some o) (h1 : o.isCells = false) (h2 : o.isWalk = false) : But M m W (W.putObj l o') :=
  But.of_below (belowK_b hn W l o o' hl h h1 h2) (Nat.le_refl _)
theorem keeps_of_below {W W' : World} (h : Below W.heap.size W W') : KeepsOthers W W' :=
  ⟨h.size, fun k o hk _ => (h.block k (Array.getElem?_eq_some_iff.1 hk).1).trans hk⟩

end Go.Proofs.YtfgajejhjbfhjaaGreat.Po
