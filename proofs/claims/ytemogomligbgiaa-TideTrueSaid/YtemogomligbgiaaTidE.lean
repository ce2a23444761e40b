/- TidE: spans in a row of memory; what a walk that ranges keeps: no program. -/
import Derived.Test.YtemogomligbgiaaTidM
import Derived.RangeFuncNested
import Derived.Maps.AppendAt
import Derived.Shelf.Abstract
namespace Go.Proofs.Ytemogomligbgiaa.Ti
open Go.RowKit Go.Shelf
set_option linter.unusedVariables false

/-- The spans of l lie in block b from cell off on. -/
def Row (w : World) (b off : Nat) (l : List Pr) : Prop :=
  ∀ i, i < l.length → w.cell? ⟨b, off + i * 2, none⟩ = some (.int .i64 ((gt l i).1)) ∧ w.cell? ⟨b, off + i * 2 + 1, none⟩ = some (.int .i64 ((gt l i).2))
theorem Row.move {w W : World} {b off : Nat} {l : List Pr} (h : Row w b off l) (hm : ∀ o, W.cell? ⟨b, o, none⟩ = w.cell? ⟨b, o, none⟩) : Row W b off l := fun i hi => by
  obtain ⟨h1, h2⟩ := h i hi
  exact ⟨(hm _).trans h1, (hm _).trans h2⟩
theorem Row.below {w W : World} {b off B : Nat} {l : List Pr} (h : Row w b off l) (hb : b < B) (hB : Below B w W) : Row W b off l :=
  h.move fun o => hB.cell (p := ⟨b, o, none⟩) hb
theorem Row.lt {w : World} {b off : Nat} {l : List Pr} (h : Row w b off l) (hl : 0 < l.length) : b < w.heap.size := World.block_lt_of_cell? _ _ (h 0 hl).1
theorem Row.alloc {w : World} {b off : Nat} {l : List Pr} (h : Row w b off l) (hl : 0 < l.length) (o : Obj) : Row (w.alloc o) b off l :=
  h.move fun o' => by
    have := h.lt hl
    exact (((Below.refl w.heap.size w).alloc (Nat.le_refl _) o).cell (p := ⟨b, o', none⟩) this)
/-- A slice value whose spans are l. -/
structure Spans (w : World) (v : Value) (l : List Pr) : Prop where
  ex : ∃ (p : Option Addr) (cap : Nat), v = .slice p l.length cap ∧ (p = none → cap = 0) ∧ l.length ≤ cap ∧ (0 < l.length → ∃ b off, p = some ⟨b, off, none⟩ ∧ Row w b off l)
  len : l.length ≤ 9223372036854775807
theorem Spans.mk' {w : World} {b off cap : Nat} {l : List Pr} (hr : Row w b off l) (hc : l.length ≤ cap) (hl : l.length ≤ 9223372036854775807) : Spans w (.slice (some ⟨b, off, none⟩) l.length cap) l :=
  ⟨⟨_, _, rfl, fun h => (by cases h), hc, fun _ => ⟨_, _, rfl, hr⟩⟩, hl⟩
theorem Spans.nil (w : World) : Spans w (.slice none 0 0) [] := ⟨⟨_, _, rfl, fun _ => rfl, Nat.le_refl _, fun h => absurd h (by simp)⟩, by simp⟩
theorem Spans.move {w W : World} {v : Value} {l : List Pr} (h : Spans w v l) (hm : ∀ b off, Row w b off l → 0 < l.length → Row W b off l) : Spans W v l := by
  obtain ⟨⟨p, cap, hv, hn, hc, hp⟩, hl⟩ := h
  refine ⟨⟨p, cap, hv, hn, hc, fun h0 => ?_⟩, hl⟩
  obtain ⟨b, off, rfl, hr⟩ := hp h0
  exact ⟨b, off, rfl, hm _ _ hr h0⟩
theorem Spans.below {w W : World} {v : Value} {l : List Pr} (h : Spans w v l) (hb : Below w.heap.size w W) : Spans W v l :=
  h.move fun b off hr h0 => hr.below (hr.lt h0) hb
theorem Spans.later {w W : World} {v : Value} {l : List Pr} (h : Spans w v l) {B : Nat} (hB : w.heap.size ≤ B) (hb : Below B w W) : Spans W v l := h.below (hb.mono hB)
theorem gt_ext {l m : List Pr} (h : l.length = m.length) (hg : ∀ i, i < l.length → gt l i = gt m i) : l = m := by
  apply List.ext_getElem h
  intro i h1 h2
  have := hg i h1
  simpa [gt, h1, h2] using this

/-- All that lay below block m, but the blocks of M, lies as it lay. -/
structure But (M : List Nat) (m : Nat) (w W : World) : Prop where
  os : W.os = w.os
  tape : W.tape = w.tape
  output : W.output = w.output
  size : w.heap.size ≤ W.heap.size
  block : ∀ k, k < m → k ∉ M → W.heap[k]? = w.heap[k]?
theorem But.refl (M : List Nat) (m : Nat) (w : World) : But M m w w := ⟨rfl, rfl, rfl, Nat.le_refl _, fun _ _ _ => rfl⟩
theorem But.trans {M : List Nat} {m : Nat} {a b c : World} (h : But M m a b) (k : But M m b c) : But M m a c :=
  ⟨k.os.trans h.os, k.tape.trans h.tape, k.output.trans h.output, Nat.le_trans h.size k.size, fun i hi hn => (k.block i hi hn).trans (h.block i hi hn)⟩
theorem But.of_below {M : List Nat} {m B : Nat} {w W : World} (h : Below B w W) (hm : m ≤ B) : But M m w W := ⟨h.os, h.tape, h.output, h.size, fun k hk _ => h.block k (by omega)⟩
theorem But.below {M : List Nat} {m B : Nat} {w W : World} (h : But M m w W) (hB : B ≤ m) (hM : ∀ k ∈ M, B ≤ k) : Below B w W :=
  ⟨h.os, h.tape, h.output, h.size, fun k hk => h.block k (by omega) (fun hm => by have := hM k hm; omega)⟩
theorem But.set {M : List Nat} {m : Nat} {w W : World} (h : But M m w W) {p : Addr} (hp : p.block ∈ M ∨ m ≤ p.block) (u : Value) : But M m w (W.setCell p u) :=
  h.trans ⟨rfl, rfl, rfl, by simp [World.setCell], fun k hk hn => Below.heap_setCell _ _ _ _ (fun e => by
    rcases hp with h | h
    · exact hn (e ▸ h)
    · omega)⟩
theorem But.cell {M : List Nat} {m : Nat} {w W : World} (h : But M m w W) {p : Addr} (hp : p.block < m) (hn : p.block ∉ M) : W.cell? p = w.cell? p := by
  have := h.block p.block hp hn
  simp [World.cell?, this]
theorem But.row {M : List Nat} {m : Nat} {w W : World} {b off : Nat} {l : List Pr} (h : But M m w W) (hb : b < m) (hn : b ∉ M) (hr : Row w b off l) : Row W b off l :=
  hr.move fun o => h.cell (p := ⟨b, o, none⟩) hb hn
theorem ownFrom_but {β : Type} {M : List Nat} {m B : Nat} {w₀ : World} (hB : m ≤ B) (hs : m ≤ w₀.heap.size) : OwnFrom B (fun (_ : β) W => But M m w₀ W) :=
  fun _ X Y row h hg hr => h.trans ⟨hg.os, hg.tape, hg.output, hg.size, fun k hk _ => hg.block k (by have := h.size; omega) (fun e => by have := (hr k e.symm).1; omega)⟩
theorem but_t {M : List Nat} {m : Nat} {A B C : World} (h : But M m A B) (k : But M m B C) : But M m A C := h.trans k
theorem but_b {M : List Nat} {m : Nat} {w : World} (hn : m ≤ w.heap.size) (W : World) (l : Nat) (o o' : Obj) (hl : w.heap.size ≤ l) (h : W.heap[l]? = some o) (h1 : o.isCells = false) (h2 : o.isWalk = false) : But M m W (W.putObj l o') :=
  But.of_below (belowK_b hn W l o o' hl h h1 h2) (Nat.le_refl _)
theorem keeps_of_below {W W' : World} (h : Below W.heap.size W W') : KeepsOthers W W' :=
  ⟨h.size, fun k o hk _ => (h.block k (Array.getElem?_eq_some_iff.1 hk).1).trans hk⟩
theorem But.alloc {M : List Nat} {m : Nat} {w W : World} (h : But M m w W) (hm : m ≤ W.heap.size) (o : Obj) : But M m w (W.alloc o) :=
  h.trans ⟨rfl, rfl, rfl, by simp, fun k hk _ => Below.heap_alloc _ _ _ (by omega)⟩

/-- The cells of spans. -/
def flS (s : Pr) : List Value := [(.int .i64 (s.1)), (.int .i64 (s.2))]
def flatS (l : List Pr) : List Value := l.flatMap flS
theorem flatS_app (l m : List Pr) : flatS (l ++ m) = flatS l ++ flatS m := by simp [flatS]
theorem flatS_length (l : List Pr) : (flatS l).length = l.length * 2 := by
  induction l with
  | nil => rfl
  | cons x l ih => simp only [flatS, List.flatMap_cons, List.length_append, List.length_cons] at *; simp only [flS, List.length_cons, List.length_nil]; omega
theorem flatS_get (l : List Pr) (i : Nat) (hi : i < l.length) : (flatS l)[i * 2]? = some (.int .i64 ((gt l i).1)) ∧ (flatS l)[i * 2 + 1]? = some (.int .i64 ((gt l i).2)) := by
  induction l generalizing i with
  | nil => simp at hi
  | cons x l ih =>
    cases i with
    | zero => simp [flatS, flS, gt]
    | succ i =>
      have h := ih i (by simpa using hi)
      have e : flatS (x :: l) = (.int .i64 (x.1)) :: (.int .i64 (x.2)) :: flatS l := rfl
      have e1 : (i + 1) * 2 + 1 = (i * 2 + 1) + 1 + 1 := by omega
      have e0 : (i + 1) * 2 = (i * 2) + 1 + 1 := by omega
      rw [e, e1, e0]
      simpa [gt] using h
theorem flatS_one (l : List Pr) : ∀ u ∈ flatS l, u.oneCell' = true := by
  intro u hu
  simp only [flatS, List.mem_flatMap] at hu
  obtain ⟨p, _, hp⟩ := hu
  simp [flS] at hp
  rcases hp with rfl | rfl <;> rfl
theorem row_of {w : World} {g off : Nat} {l : List Pr} (h : ∀ j, j < (flatS l).length → w.cell? ⟨g, off + j, none⟩ = (flatS l)[j]?) : Row w g off l := fun i hi => by
  obtain ⟨e1, e2⟩ := flatS_get l i hi
  have hl := flatS_length l
  refine ⟨?_, ?_⟩
  · rw [h _ (by omega), e1]
  · have := h (i * 2 + 1) (by omega)
    rw [e2] at this
    rw [← this]
    rfl
theorem flatS_set (l : List Pr) (k : Nat) (u : Pr) : flatS (l.set k u) = ((flatS l).set (k * 2) (.int .i64 (u.1))).set (k * 2 + 1) (.int .i64 (u.2)) := by
  induction l generalizing k with
  | nil => simp [flatS]
  | cons x l ih =>
    cases k with
    | zero => rfl
    | succ k =>
      have e : ∀ (y : Pr) (m : List Pr), flatS (y :: m) = (.int .i64 (y.1)) :: (.int .i64 (y.2)) :: flatS m := fun _ _ => rfl
      rw [List.set_cons_succ, e, ih, e]
      have e1 : (k + 1) * 2 + 1 = (k * 2 + 1) + 1 + 1 := by omega
      have e0 : (k + 1) * 2 = (k * 2) + 1 + 1 := by omega
      rw [e1, e0]
      rfl
theorem grown_of_below {W W' : World} (h : Below W.heap.size W W') : W.grownBy W' none := ⟨h.os, h.tape, h.output, h.size, fun k hk _ => h.block k hk⟩
theorem own_below {W W' : World} {base : Nat} {e : TypeId} {size : Nat} {v : Value} {n : Nat} {xs : List Value} (h : W.ownsRow base e size v n xs) (hb : Below W.heap.size W W') : W'.ownsRow base e size v n xs :=
  h.kept (grown_of_below hb) (by cases hv : v.ownBlock with | none => exact .inl rfl | some k => exact .inr (by simp))
theorem own_base {W : World} {base base' : Nat} {e : TypeId} {size : Nat} {v : Value} {n : Nat} {xs : List Value} (h : W.ownsRow base e size v n xs) (hb : base' ≤ base) : W.ownsRow base' e size v n xs := by
  obtain ⟨h1, h2⟩ := h
  refine ⟨h1, ?_⟩
  rcases h2 with h | ⟨g, cap, cur, a, b, c⟩
  · exact .inl h
  · exact .inr ⟨g, cap, cur, a, Nat.le_trans hb b, c⟩
theorem own_form {W : World} {base n : Nat} {e : TypeId} {size : Nat} {v : Value} {xs : List Value} (h : W.ownsRow base e size v n xs) : ∃ p c, v = .slice p n c ∧ n ≤ c ∧ (p = none → c = 0) := by
  obtain ⟨h1, h2⟩ := h
  rcases h2 with ⟨h, h'⟩ | ⟨g', cap', cur, hv, hb, hc, hn, hm, hs, ht⟩
  · subst h'; exact ⟨_, _, h, Nat.le_refl _, fun _ => rfl⟩
  · exact ⟨_, _, hv, hn, fun h => (by cases h)⟩
theorem below_app2 {B : Nat} {W0 wA w' : World} {e : TypeId} {size : Nat} {v : Value} {n : Nat} {xs : List Value} (hb : Below B W0 wA) (hown : wA.ownsRow B e size v n xs) (hB : B ≤ wA.heap.size) (hg : wA.grownBy w' v.ownBlock) : Below B W0 w' := by
  refine ⟨hg.os.trans hb.os, hg.tape.trans hb.tape, hg.output.trans hb.output, Nat.le_trans hb.size hg.size, fun k hk => ?_⟩
  refine (hg.block k (by omega) ?_).trans (hb.block k hk)
  rcases hown.2 with ⟨rfl, _⟩ | ⟨g, cap, cur, rfl, hbg, _⟩
  · simp [Value.ownBlock]
  · simp [Value.ownBlock]
    omega
theorem own_row {w : World} {base g n cap : Nat} {e : TypeId} {l : List Pr} (h : w.ownsRow base e 2 (.slice (some ⟨g, 0, none⟩) n cap) n (flatS l)) (hl : l.length ≤ n) : Row w g 0 l :=
  row_of fun j hj => by
    have hfl := flatS_length l
    rw [Nat.zero_add]; exact h.cellAt j (by omega)
theorem own_spans {W : World} {base : Nat} {e : TypeId} {v : Value} {l : List Pr} (h : W.ownsRow base e 2 v l.length (flatS l)) (hl : l.length ≤ 9223372036854775807) : Spans W v l := by
  obtain ⟨p, c, rfl, hc, hn⟩ := own_form h
  refine ⟨⟨p, c, rfl, hn, hc, fun h0 => ?_⟩, hl⟩
  obtain ⟨k, hk⟩ : ∃ k, l.length = k + 1 := ⟨l.length - 1, by omega⟩
  have h' := h
  rw [hk] at h'
  obtain ⟨g, cap, e⟩ := ownsRow_succ h'
  rw [← hk] at e
  cases e
  exact ⟨g, 0, rfl, own_row h (Nat.le_refl _)⟩

end Go.Proofs.Ytemogomligbgiaa.Ti
