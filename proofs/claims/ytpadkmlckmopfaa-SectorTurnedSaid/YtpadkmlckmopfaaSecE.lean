/- SecE: sectors in a row of memory; what a walk that ranges keeps: no program. -/
import Derived.Test.YtpadkmlckmopfaaSecM
import Derived.RangeFuncNested
namespace Go.Proofs.Ytpadkmlckmopfaa.Se
open Go.RowKit
set_option linter.unusedVariables false

/-- The sectors of l lie in block b from cell off on. -/
def Row (w : World) (b off : Nat) (l : List Sec) : Prop :=
  ∀ i, i < l.length → w.cell? ⟨b, off + i * 6, none⟩ = some (.int .i64 ((gs l i).fx)) ∧ w.cell? ⟨b, off + i * 6 + 1, none⟩ = some (.int .i64 ((gs l i).fy)) ∧ w.cell? ⟨b, off + i * 6 + 2, none⟩ = some (.int .i64 ((gs l i).tx)) ∧ w.cell? ⟨b, off + i * 6 + 3, none⟩ = some (.int .i64 ((gs l i).ty)) ∧ w.cell? ⟨b, off + i * 6 + 4, none⟩ = some (.int .i64 ((gs l i).co)) ∧ w.cell? ⟨b, off + i * 6 + 5, none⟩ = some (.int .i64 ((gs l i).ra))
theorem Row.move {w W : World} {b off : Nat} {l : List Sec} (h : Row w b off l) (hm : ∀ o, W.cell? ⟨b, o, none⟩ = w.cell? ⟨b, o, none⟩) : Row W b off l := fun i hi => by
  obtain ⟨h1, h2, h3, h4, h5, h6⟩ := h i hi
  exact ⟨(hm _).trans h1, (hm _).trans h2, (hm _).trans h3, (hm _).trans h4, (hm _).trans h5, (hm _).trans h6⟩
theorem Row.below {w W : World} {b off B : Nat} {l : List Sec} (h : Row w b off l) (hb : b < B) (hB : Below B w W) : Row W b off l :=
  h.move fun o => hB.cell (p := ⟨b, o, none⟩) hb
theorem Row.lt {w : World} {b off : Nat} {l : List Sec} (h : Row w b off l) (hl : 0 < l.length) : b < w.heap.size := World.block_lt_of_cell? _ _ (h 0 hl).1
theorem gs_take {l : List Sec} {n i : Nat} (h : i < n) : gs (l.take n) i = gs l i := by
  unfold gs
  rw [List.getD_eq_getElem?_getD, List.getD_eq_getElem?_getD, List.getElem?_take_of_lt h]
theorem Row.take {w : World} {b off : Nat} {l : List Sec} (h : Row w b off l) (n : Nat) : Row w b off (l.take n) := fun i hi => by
  rw [List.length_take] at hi
  rw [gs_take (by omega)]
  exact h i (by omega)
theorem Row.alloc {w : World} {b off : Nat} {l : List Sec} (h : Row w b off l) (hl : 0 < l.length) (o : Obj) : Row (w.alloc o) b off l :=
  h.move fun o' => by
    have := h.lt hl
    exact (((Below.refl w.heap.size w).alloc (Nat.le_refl _) o).cell (p := ⟨b, o', none⟩) this)
/-- A slice value whose sectors are l. -/
structure Secs (w : World) (v : Value) (l : List Sec) : Prop where
  ex : ∃ (p : Option Addr) (cap : Nat), v = .slice p l.length cap ∧ (p = none → cap = 0) ∧ l.length ≤ cap ∧ (0 < l.length → ∃ b off, p = some ⟨b, off, none⟩ ∧ Row w b off l)
  len : l.length ≤ 9223372036854775807
theorem Secs.mk' {w : World} {b off cap : Nat} {l : List Sec} (hr : Row w b off l) (hc : l.length ≤ cap) (hl : l.length ≤ 9223372036854775807) : Secs w (.slice (some ⟨b, off, none⟩) l.length cap) l :=
  ⟨⟨_, _, rfl, fun h => (by cases h), hc, fun _ => ⟨_, _, rfl, hr⟩⟩, hl⟩
theorem Secs.nil (w : World) : Secs w (.slice none 0 0) [] := ⟨⟨_, _, rfl, fun _ => rfl, Nat.le_refl _, fun h => absurd h (by simp)⟩, by simp⟩
theorem Secs.move {w W : World} {v : Value} {l : List Sec} (h : Secs w v l) (hm : ∀ b off, Row w b off l → 0 < l.length → Row W b off l) : Secs W v l := by
  obtain ⟨⟨p, cap, hv, hn, hc, hp⟩, hl⟩ := h
  refine ⟨⟨p, cap, hv, hn, hc, fun h0 => ?_⟩, hl⟩
  obtain ⟨b, off, rfl, hr⟩ := hp h0
  exact ⟨b, off, rfl, hm _ _ hr h0⟩
theorem Secs.below {w W : World} {v : Value} {l : List Sec} (h : Secs w v l) (hb : Below w.heap.size w W) : Secs W v l :=
  h.move fun b off hr h0 => hr.below (hr.lt h0) hb
theorem soK_mono {l : List Sec} {k n : Nat} (h : k ≤ n) (hs : soK l n = true) : soK l k = true := by
  induction n with
  | zero => obtain rfl : k = 0 := by omega
            exact hs
  | succ n ih =>
    rcases Nat.lt_or_ge n k with h1 | h1
    · obtain rfl : k = n + 1 := by omega
      exact hs
    · simp only [soK, Bool.and_eq_true] at hs
      exact ih (by omega) hs.1
theorem soK_va {l : List Sec} {n k : Nat} (hs : soK l n = true) (hk : k < n) : vaS (gs l k) = true := by
  have := soK_mono (show k + 1 ≤ n by omega) hs
  simp only [soK, Bool.and_eq_true] at this
  exact this.2.1
theorem soK_take {l : List Sec} {n k : Nat} (h : k ≤ n) : soK (l.take n) k = soK l k := by
  induction k with
  | zero => rfl
  | succ k ih => simp only [soK]; rw [ih (by omega), gs_take (by omega), List.take_take, Nat.min_eq_left (by omega)]
/-- All sectors have valid directions. -/
def okS (s : Sec) : Prop := okW s.fr ∧ okW s.to
theorem vaS_ok {s : Sec} (h : vaS s = true) : okS s := ⟨okD_W (vaS_iff.1 h).1, okD_W (vaS_iff.1 h).2.1⟩
def allS (l : List Sec) : Prop := ∀ i, i < l.length → vaS (gs l i) = true
theorem gs_mem {l : List Sec} {i : Nat} (h : i < l.length) : gs l i ∈ l := by
  unfold gs
  rw [List.getD_eq_getElem?_getD, List.getElem?_eq_getElem h]
  exact List.getElem_mem h
theorem mem_gs {l : List Sec} {s : Sec} (h : s ∈ l) : ∃ i, i < l.length ∧ gs l i = s := by
  obtain ⟨i, hi, e⟩ := List.mem_iff_getElem.1 h
  exact ⟨i, hi, by unfold gs; rw [List.getD_eq_getElem?_getD, List.getElem?_eq_getElem hi]; exact e⟩
theorem vaL_all {l : List Sec} (h : vaL l = true) : l.length ≤ 12 ∧ ∀ i, i < l.length → vaS (gs l i) = true := by
  simp only [vaL, Bool.and_eq_true, decide_eq_true_eq] at h
  exact ⟨h.1, fun i hi => soK_va h.2 hi⟩
theorem take_succ_gs {l : List Sec} {k : Nat} (h : k < l.length) : l.take (k + 1) = l.take k ++ [gs l k] := by
  rw [List.take_add_one, List.getElem?_eq_getElem h]
  unfold gs
  rw [List.getD_eq_getElem?_getD, List.getElem?_eq_getElem h]
  rfl

def upto {α : Type} (f : Nat → α) (k : Nat) : List α := (List.range k).map f
theorem upto_succ {α : Type} (f : Nat → α) (k : Nat) : upto f (k + 1) = upto f k ++ [f k] := by simp [upto, List.range_succ]
theorem upto_length {α : Type} (f : Nat → α) (k : Nat) : (upto f k).length = k := by simp [upto]
theorem upto_gs (l : List Sec) : upto (gs l) l.length = l := by
  apply List.ext_getElem
  · simp [upto]
  · intro i h1 h2
    simp [upto, gs, h2]
theorem sec_ext {l m : List Sec} (h : l.length = m.length) (hg : ∀ i, i < l.length → gs l i = gs m i) : l = m := by
  apply List.ext_getElem h
  intro i h1 h2
  have := hg i h1
  simpa [gs, h1, h2] using this

/-- All that lay below block m, but the blocks of M, lies as it lay. -/
structure But (M : List Nat) (m : Nat) (w W : World) : Prop where
  os : W.os = w.os
  tape : W.tape = w.tape
  output : W.output = w.output
  size : w.heap.size ≤ W.heap.size
  block : ∀ k, k < m → k ∉ M → W.heap[k]? = w.heap[k]?
theorem But.refl (M : List Nat) (m : Nat) (w : World) : But M m w w := ⟨rfl, rfl, rfl, Nat.le_refl _, fun _ _ _ => rfl⟩
theorem But.trans {M : List Nat} {m : Nat} {a b c : World} (h : But M m a b) (k : But M m b c) : But M m a c :=
  ⟨k.os.trans h.os, k.tape.trans h.tape, k.output.trans h.output, Nat.le_trans h.size k.size, fun i hi hn => (k.block i hi hn).trans (h.block i hi hn)⟩
theorem But.of_below {M : List Nat} {m B : Nat} {w W : World} (h : Below B w W) (hm : m ≤ B) : But M m w W := ⟨h.os, h.tape, h.output, h.size, fun k hk _ => h.block k (by omega)⟩
theorem But.below {M : List Nat} {m B : Nat} {w W : World} (h : But M m w W) (hB : B ≤ m) (hM : ∀ k ∈ M, B ≤ k) : Below B w W :=
  ⟨h.os, h.tape, h.output, h.size, fun k hk => h.block k (by omega) (fun hm => by have := hM k hm; omega)⟩
theorem But.set {M : List Nat} {m : Nat} {w W : World} (h : But M m w W) {p : Addr} (hp : p.block ∈ M) (u : Value) : But M m w (W.setCell p u) :=
  h.trans ⟨rfl, rfl, rfl, by simp [World.setCell], fun k hk hn => Below.heap_setCell _ _ _ _ (fun e => hn (e ▸ hp))⟩
theorem But.cell {M : List Nat} {m : Nat} {w W : World} (h : But M m w W) {p : Addr} (hp : p.block < m) (hn : p.block ∉ M) : W.cell? p = w.cell? p := by
  have := h.block p.block hp hn
  simp [World.cell?, this]
theorem But.row {M : List Nat} {m : Nat} {w W : World} {b off : Nat} {l : List Sec} (h : But M m w W) (hb : b < m) (hn : b ∉ M) (hr : Row w b off l) : Row W b off l :=
  hr.move fun o => h.cell (p := ⟨b, o, none⟩) hb hn
theorem ownFrom_but {β : Type} {M : List Nat} {m B : Nat} {w₀ : World} (hB : m ≤ B) (hs : m ≤ w₀.heap.size) : OwnFrom B (fun (_ : β) W => But M m w₀ W) :=
  fun _ X Y row h hg hr => h.trans ⟨hg.os, hg.tape, hg.output, hg.size, fun k hk _ => hg.block k (by have := h.size; omega) (fun e => by have := (hr k e.symm).1; omega)⟩
theorem but_t {M : List Nat} {m : Nat} {A B C : World} (h : But M m A B) (k : But M m B C) : But M m A C := h.trans k
theorem but_b {M : List Nat} {m : Nat} {w : World} (hn : m ≤ w.heap.size) (W : World) (l : Nat) (o o' : Obj) (hl : w.heap.size ≤ l) (h : W.heap[l]? = some o) (h1 : o.isCells = false) (h2 : o.isWalk = false) : But M m W (W.putObj l o') :=
  But.of_below (belowK_b hn W l o o' hl h h1 h2) (Nat.le_refl _)
theorem keeps_of_below {W W' : World} (h : Below W.heap.size W W') : KeepsOthers W W' :=
  ⟨h.size, fun k o hk _ => (h.block k (Array.getElem?_eq_some_iff.1 hk).1).trans hk⟩
theorem But.alloc {M : List Nat} {m : Nat} {w W : World} (h : But M m w W) (hm : m ≤ W.heap.size) (o : Obj) : But M m w (W.alloc o) :=
  h.trans ⟨rfl, rfl, rfl, by simp, fun k hk _ => Below.heap_alloc _ _ _ (by omega)⟩

/-- The cells of sectors. -/
def flS (s : Sec) : List Value := [(.int .i64 (s.fx)), (.int .i64 (s.fy)), (.int .i64 (s.tx)), (.int .i64 (s.ty)), (.int .i64 (s.co)), (.int .i64 (s.ra))]
def flatS (l : List Sec) : List Value := l.flatMap flS
theorem flatS_app (l m : List Sec) : flatS (l ++ m) = flatS l ++ flatS m := by simp [flatS]
theorem flatS_length (l : List Sec) : (flatS l).length = l.length * 6 := by
  induction l with
  | nil => rfl
  | cons x l ih => simp only [flatS, List.flatMap_cons, List.length_append, List.length_cons] at *; simp only [flS, List.length_cons, List.length_nil]; omega
theorem flatS_get (l : List Sec) (i : Nat) (hi : i < l.length) : (flatS l)[i * 6]? = some (.int .i64 ((gs l i).fx)) ∧ (flatS l)[i * 6 + 1]? = some (.int .i64 ((gs l i).fy)) ∧ (flatS l)[i * 6 + 2]? = some (.int .i64 ((gs l i).tx)) ∧ (flatS l)[i * 6 + 3]? = some (.int .i64 ((gs l i).ty)) ∧ (flatS l)[i * 6 + 4]? = some (.int .i64 ((gs l i).co)) ∧ (flatS l)[i * 6 + 5]? = some (.int .i64 ((gs l i).ra)) := by
  induction l generalizing i with
  | nil => simp at hi
  | cons x l ih =>
    cases i with
    | zero => simp [flatS, flS, gs]
    | succ i =>
      have h := ih i (by simpa using hi)
      have e : flatS (x :: l) = (.int .i64 (x.fx)) :: (.int .i64 (x.fy)) :: (.int .i64 (x.tx)) :: (.int .i64 (x.ty)) :: (.int .i64 (x.co)) :: (.int .i64 (x.ra)) :: flatS l := rfl
      have ei : ∀ c, (i + 1) * 6 + c = (i * 6 + c) + 1 + 1 + 1 + 1 + 1 + 1 := fun c => by omega
      have e0 : (i + 1) * 6 = (i * 6) + 1 + 1 + 1 + 1 + 1 + 1 := by omega
      rw [e, ei 1, ei 2, ei 3, ei 4, ei 5, e0]
      simpa [gs] using h
theorem flatS_one (l : List Sec) : ∀ u ∈ flatS l, u.oneCell' = true := by
  intro u hu
  simp only [flatS, List.mem_flatMap] at hu
  obtain ⟨p, _, hp⟩ := hu
  simp [flS] at hp
  rcases hp with rfl | rfl | rfl | rfl | rfl | rfl <;> rfl
theorem six_of (j : Nat) : ∃ i, j = i * 6 ∨ j = i * 6 + 1 ∨ j = i * 6 + 2 ∨ j = i * 6 + 3 ∨ j = i * 6 + 4 ∨ j = i * 6 + 5 := ⟨j / 6, by omega⟩
theorem row_news {w : World} {g off : Nat} {l : List Sec} (h : Row w g off l) : ∀ j u, (flatS l)[j]? = some u → w.cell? ((⟨g, off, none⟩ : Addr).add j) = some u := by
  intro j u hj
  have hlt : j < l.length * 6 := by
    have := (List.getElem?_eq_some_iff.1 hj).1
    rw [flatS_length] at this
    exact this
  obtain ⟨i, hji⟩ := six_of j
  obtain ⟨e1, e2, e3, e4, e5, e6⟩ := flatS_get l i (by omega)
  obtain ⟨c1, c2, c3, c4, c5, c6⟩ := h i (by omega)
  have ha : ∀ n, (⟨g, off, none⟩ : Addr).add n = ⟨g, off + n, none⟩ := fun n => by simp [Addr.add]
  rw [ha]
  rcases hji with rfl | rfl | rfl | rfl | rfl | rfl
  · rw [e1] at hj; cases hj; exact c1
  · rw [e2] at hj; cases hj; exact c2
  · rw [e3] at hj; cases hj; exact c3
  · rw [e4] at hj; cases hj; exact c4
  · rw [e5] at hj; cases hj; exact c5
  · rw [e6] at hj; cases hj; exact c6
theorem row_of {w : World} {g off : Nat} {l : List Sec} (h : ∀ j, j < l.length * 6 → w.cell? ⟨g, off + j, none⟩ = (flatS l)[j]?) : Row w g off l := by
  intro i hi
  obtain ⟨e1, e2, e3, e4, e5, e6⟩ := flatS_get l i hi
  exact ⟨(h _ (by omega)).trans e1, (h (i * 6 + 1) (by omega)).trans e2, (h (i * 6 + 2) (by omega)).trans e3, (h (i * 6 + 3) (by omega)).trans e4, (h (i * 6 + 4) (by omega)).trans e5, (h (i * 6 + 5) (by omega)).trans e6⟩

end Go.Proofs.Ytpadkmlckmopfaa.Se
