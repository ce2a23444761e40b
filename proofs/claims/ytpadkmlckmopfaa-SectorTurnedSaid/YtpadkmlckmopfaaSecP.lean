/- SecP: directions of the own. -/
import Derived.Test.YtpadkmlckmopfaaSecL
import Derived.Test.YtpadkmlckmopfaaSecD
import Derived.RangeFuncNested
import Derived.RangeFuncBound
import Derived.RangeFuncCalls
import Derived.RangeFuncLeaves
import Derived.Shelf.Abstract
import Derived.Shelf.RegionOpen
import Derived.WalkKit
import Derived.OwnWalkIn
import Derived.TacticsInMore
import Derived.LoopNIn
import Derived.LoopIn
import Derived.Outline
import Derived.IntWalk
import Derived.Lib.Hide
import Derived.StillTailTactics
import Derived.BigRegion
import Derived.Deep.RegionWith
import Derived.RangeFuncBox
import Derived.Maps.AppendAt
namespace Go.Proofs.Ytpadkmlckmopfaa.Se
open Go.RowKit Go.Shelf
set_option linter.unusedSimpArgs false
set_option linter.unusedVariables false

attribute [local go_sem] Oper.semAt_some
/-- The cells of directions. -/
def flatV (l : List V) : List Value := l.flatMap fun p => [(.int .i64 (p.1)), (.int .i64 (p.2))]
theorem flatV_app (l m : List V) : flatV (l ++ m) = flatV l ++ flatV m := by simp [flatV]
theorem flatV_length (l : List V) : (flatV l).length = l.length * 2 := by
  induction l with
  | nil => rfl
  | cons x l ih => simp only [flatV, List.flatMap_cons, List.length_append, List.length_cons, List.length_nil] at *; omega
theorem flatV_get (l : List V) (i : Nat) (hi : i < l.length) : (flatV l)[i * 2]? = some (.int .i64 ((gv l i).1)) ∧ (flatV l)[i * 2 + 1]? = some (.int .i64 ((gv l i).2)) := by
  induction l generalizing i with
  | nil => simp at hi
  | cons x l ih =>
    cases i with
    | zero => simp [flatV, gv]
    | succ i =>
      have h := ih i (by simpa using hi)
      have e : flatV (x :: l) = (.int .i64 (x.1)) :: (.int .i64 (x.2)) :: flatV l := rfl
      rw [e, show (i + 1) * 2 = i * 2 + 1 + 1 by omega, show i * 2 + 1 + 1 + 1 = (i * 2 + 1) + 1 + 1 by omega]
      simpa [gv] using h
theorem info_d : (Try.prog.info? 55).map (fun i => (i.zero, i.size, i.bytes)) = some (some (.agg #[(.int .i64 0), (.int .i64 0)]), 2, 16) := by kernel_rfl
theorem two_new (w : World) (x y : Value) (t : TypeId) : ∀ j u, [x, y][j]? = some u → (w.alloc (.cells #[x, y] t)).cell? ((⟨w.heap.size, 0, none⟩ : Addr).add j) = some u := by
  intro j u h
  match j, h with
  | 0, h => simp at h; subst h; simp [Addr.add]
  | 1, h => simp at h; subst h; simp [Addr.add]
theorem app_all {Wl w1 : World} {n₀ A : Nat} {t : TypeId} {v v' : Value} {k m : Nat} {xs ys : List Value} {tmp : Obj} (hv : Boxed Wl A t v) (hA : A < n₀) (hrow : Wl.ownsRow n₀ 55 2 v k xs) (hn₀ : n₀ ≤ Wl.heap.size)
    (hown' : w1.ownsRow n₀ 55 2 v' m ys) (hgrow : (Wl.alloc tmp).grownBy w1 v.ownBlock) :
    Boxed w1 A t v ∧ Boxed (w1.setCell ⟨A, 0, none⟩ v') A t v' ∧ (w1.setCell ⟨A, 0, none⟩ v').ownsRow n₀ 55 2 v' m ys ∧ KeepsOthers Wl (w1.setCell ⟨A, 0, none⟩ v') ∧ Kp [A] n₀ Wl (w1.setCell ⟨A, 0, none⟩ v') := by
  have hob : ∀ g, v.ownBlock = some g → n₀ ≤ g ∧ ∃ cur, (Wl.alloc tmp).heap[g]? = some (.cells cur 55 (0, 0)) := fun g hg => by
    rcases (hrow.alloc tmp).2 with ⟨rfl, _⟩ | ⟨g', cap, cur, rfl, hb, hgb, _⟩
    · simp [Value.ownBlock] at hg
    · simp [Value.ownBlock] at hg; subst hg; exact ⟨hb, cur, hgb⟩
  have hob' : ∀ g, v'.ownBlock = some g → n₀ ≤ g := fun g hg => by
    rcases hown'.2 with ⟨rfl, _⟩ | ⟨g', cap, cur, rfl, hb, hgb, _⟩
    · simp [Value.ownBlock] at hg
    · simp [Value.ownBlock] at hg; subst hg; exact hb
  have hv1 : Boxed w1 A t v := (hv.alloc tmp).kept hgrow (fun e => by have := (hob A e.symm).1; omega)
  refine ⟨hv1, hv1.set v', hown'.kept (grownBy_setCell' w1 A v') (.inr (fun e => by have := hob' A e; omega)), ?_, ⟨?_, ?_⟩⟩
  · refine ((KeepsOthers.alloc Wl tmp).trans (KeepsOthers.of_grownBy hgrow fun j o ej hj => ?_)).trans (KeepsOthers.setCell _ _ _)
    obtain ⟨_, cur, hc⟩ := hob j ej
    rw [hc] at hj
    cases hj
    rfl
  · have hb : But [A] n₀ Wl w1 := ⟨hgrow.os, hgrow.tape, hgrow.output, by have := hgrow.size; simp at this; omega, fun i hi hn => (hgrow.block i (by simp; omega) (fun e => by have := (hob i e.symm).1; omega)).trans (Below.heap_alloc _ _ _ (by omega))⟩
    exact hb.set (p := ⟨A, 0, none⟩) (by simp) _
  · refine ((Kee.below ((Below.refl _ Wl).alloc (Nat.le_refl _) tmp)).trans (Kee.grown hgrow fun g c z e h => ?_)).set (p := ⟨A, 0, none⟩) (by simp) _
    obtain ⟨_, cur, hc⟩ := hob g e
    rw [hc] at h
    simp at h
theorem opIn_append_own {F : Fence} {n : Nat} {P : Program} {w : World} {o : Oper} {a : Act} {K : Act → World → Prop} {Q : Exit → Act → World → Prop}
    (s x : Operand) (t : TypeId) (hop : o.op = Op.call { callee := Callee.builtin Builtin.append, args := #[s, x], argTypes := #[t, t] })
    (base : Nat) (e : TypeId) (i : TypeInfo) (z : Value) (size bytes : Nat) (h1 : P.underlying t = some (.slice e)) (h2 : P.info? e = some i) (h3 : i.zero = some z) (h4 : i.size = size) (h5 : i.bytes = bytes) (h6 : z.cells.size = size) (h7 : 0 < size)
    (v : Value) (k : Nat) (xs : List Value) (hs : a.eval s = v) (hown : w.ownsRow base e size v k xs) (ad : Addr) (m c : Nat) (news : List Value) (hx : a.eval x = .slice (some ad) m c) (hn : news.length = m * size)
    (hc : ∀ j u, news[j]? = some u → w.cell? (ad.add j) = some u) (h1c : ∀ u ∈ news, u.oneCell' = true) (b1 : k + m ≤ maxLen) (b2 : (k + m) * bytes ≤ 140737488355328) (b3 : base ≤ w.heap.size)
    (hK : ∀ v' w', w'.ownsRow base e size v' (k + m) (xs ++ news) → w.grownBy w' v.ownBlock → K (a.put o.dst v') w') : o.wpIn F n P a w K Q := by
  obtain ⟨v', w', hrun, r1, r2, r3⟩ := run_append_own (P := P) w base t o.type e i z size bytes h1 h2 h3 h4 h5 h6 h7 v k xs hown ad m c news hn hc h1c b1 b2 b3
  unfold Oper.wpIn
  refine ⟨?_, ?_⟩
  · simp [Oper.about, hop, resolve, Target.leads, Sem.run_pure]
  · rw [Oper.semAt_plain F _ _ (by rw [hop]; intro c hc'; cases hc')]
    simp [execOp, hop, resolve, invoke, builtin, hs, hx, hrun, Result.andThen]
    exact hK _ _ r1 r2
/-- The turns, with the least integers. -/
def lsD (pre : List Di) : List V := pre.map fun x => leV x.1
theorem lsD_snoc (pre : List Di) (x : Di) : lsD (pre ++ [x]) = lsD pre ++ [leV x.1] := by simp [lsD]
theorem lsD_length (pre : List Di) : (lsD pre).length = pre.length := by simp [lsD]


end Go.Proofs.Ytpadkmlckmopfaa.Se
