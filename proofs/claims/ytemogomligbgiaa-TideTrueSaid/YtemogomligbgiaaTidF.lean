/- TidF: boxes of two cells; the iterator as a law. -/
import Derived.Test.YtemogomligbgiaaTidD
import Derived.RangeFuncNested
import Derived.LoopTactic
import Derived.Deep.DeepCutAuto
import Derived.Deep.QuietTactic
import Derived.RangeFuncBound
import Derived.RangeFuncCalls
import Derived.RangeFuncLeaves
import Derived.Shelf.Abstract
import Derived.Shelf.RegionOpen
import Derived.WalkKit
import Derived.OwnWalkIn
import Derived.TacticsInMore
import Derived.LoopNIn
import Derived.LoopIn
import Derived.Outline
import Derived.IntWalk
import Derived.Lib.Hide
import Derived.StillTailTactics
import Derived.BigRegion
import Derived.Deep.RegionWith
import Derived.RangeFuncBox
import Derived.Maps.AppendAt
namespace Go.Proofs.Ytemogomligbgiaa.Ti
open Go.RowKit Go.Shelf Sp
set_option linter.unusedSimpArgs false
set_option linter.unusedVariables false

attribute [local go_sem] Oper.semAt_some
def Box2 (W : World) (B : Nat) (t : TypeId) (p : Pr) : Prop := W.heap[B]? = some (.cells #[(.int .i64 (p.1)), (.int .i64 (p.2))] t (0, 0))
theorem Box2.lt {W : World} {B : Nat} {t : TypeId} {p : Pr} (h : Box2 W B t p) : B < W.heap.size := (Array.getElem?_eq_some_iff.1 h).1
theorem Box2.c0 {W : World} {B : Nat} {t : TypeId} {p : Pr} (h : Box2 W B t p) : W.cell? ⟨B, 0, none⟩ = some (.int .i64 (p.1)) := by simp [World.cell?, show W.heap[B]? = _ from h]
theorem Box2.c1 {W : World} {B : Nat} {t : TypeId} {p : Pr} (h : Box2 W B t p) : W.cell? ⟨B, 1, none⟩ = some (.int .i64 (p.2)) := by simp [World.cell?, show W.heap[B]? = _ from h]
theorem Box2.f0 {W : World} {B : Nat} {t : TypeId} {p : Pr} (h : Box2 W B t p) : W.frozen? ⟨B, 0, none⟩ = false := by simp [World.frozen?, show W.heap[B]? = _ from h]
theorem Box2.f1 {W : World} {B : Nat} {t : TypeId} {p : Pr} (h : Box2 W B t p) : W.frozen? ⟨B, 1, none⟩ = false := by simp [World.frozen?, show W.heap[B]? = _ from h]
theorem Box2.new (W : World) (t : TypeId) (p : Pr) : Box2 (W.alloc (.cells #[(.int .i64 (p.1)), (.int .i64 (p.2))] t)) W.heap.size t p := World.alloc_heap_new W _
theorem Box2.alloc {W : World} {B : Nat} {t : TypeId} {p : Pr} (h : Box2 W B t p) (o : Obj) : Box2 (W.alloc o) B t p := (Below.heap_alloc W o B h.lt).trans h
theorem Box2.below {W W' : World} {B : Nat} {t : TypeId} {p : Pr} (h : Box2 W B t p) (hb : Below W.heap.size W W') : Box2 W' B t p := (hb.block B h.lt).trans h
theorem Box2.but {M : List Nat} {m : Nat} {W W' : World} {B : Nat} {t : TypeId} {p : Pr} (h : Box2 W B t p) (hb : But M m W W') (hl : B < m) (hn : B ∉ M) : Box2 W' B t p := (hb.block B hl hn).trans h
theorem Box2.set0 {W : World} {B : Nat} {t : TypeId} {x y : Value} (v : Value) (h : W.heap[B]? = some (.cells #[x, y] t (0, 0))) : (W.setCell ⟨B, 0, none⟩ v).heap[B]? = some (.cells #[v, y] t (0, 0)) := by
  obtain ⟨hlt, hk⟩ := Array.getElem?_eq_some_iff.1 h
  show (W.heap.modify B _)[B]? = _
  rw [Array.getElem?_eq_getElem (by rw [Array.size_modify]; exact hlt), Array.getElem_modify_self, hk]
  rfl
theorem Box2.set1 {W : World} {B : Nat} {t : TypeId} {x y : Value} (v : Value) (h : W.heap[B]? = some (.cells #[x, y] t (0, 0))) : (W.setCell ⟨B, 1, none⟩ v).heap[B]? = some (.cells #[x, v] t (0, 0)) := by
  obtain ⟨hlt, hk⟩ := Array.getElem?_eq_some_iff.1 h
  show (W.heap.modify B _)[B]? = _
  rw [Array.getElem?_eq_getElem (by rw [Array.size_modify]; exact hlt), Array.getElem_modify_self, hk]
  rfl
theorem Box2.set {W : World} {B : Nat} {t : TypeId} {p : Pr} (q : Pr) (h : Box2 W B t p) : Box2 ((W.setCell ⟨B, 0, none⟩ (.int .i64 (q.1))).setCell ⟨B, 1, none⟩ (.int .i64 (q.2))) B t q := Box2.set1 _ (Box2.set0 _ h)
theorem Box2.other {W : World} {B : Nat} {t : TypeId} {p : Pr} (h : Box2 W B t p) {a : Addr} (hn : B ≠ a.block) (u : Value) : Box2 (W.setCell a u) B t p := (Below.heap_setCell _ _ _ _ hn).trans h
theorem box2_own {β : Type} (B : Nat) (t : TypeId) (f : β → Pr) : Own (fun s W => Box2 W B t (f s)) := fun s X Y row hs hg hrow => by
  have h := hs
  refine (hg.block B h.lt (fun e => ?_)).trans hs
  obtain ⟨o, ho, hc⟩ := hrow B e.symm
  rw [show X.heap[B]? = _ from hs] at ho
  cases ho
  cases hc
theorem Box2.put {W : World} {B D : Nat} {t : TypeId} {p : Pr} {o : Obj} (h : Box2 W B t p) (o' : Obj) (hD : W.heap[D]? = some o) (hc : o.isCells = false) : Box2 (W.putObj D o') B t p := by
  refine ((grownBy_putObj' W D o').block B h.lt (fun e => ?_)).trans h
  have e' : D = B := by simpa using e.symm
  rw [e', show W.heap[B]? = _ from h] at hD
  cases hD
  cases hc
theorem Box2.typ {W : World} {B : Nat} {p : Pr} (h : Box2 W B 62 p) : Typ W B := ⟨_, _, h⟩
theorem div_lt {x p : Int} {n : Nat} (hp : 0 < p) (h0 : 0 ≤ x) (hn : 0 < n) (h : x ≤ ((n : Int) - 1) * p) : (x / p).toNat < n ∧ ((x / p).toNat : Int) = x / p ∧ x.tdiv p = ((x / p).toNat : Int) := by
  have h1 : 0 ≤ x / p := Int.ediv_nonneg h0 (by omega)
  have h2 : x / p ≤ ((n : Int) - 1) := by
    have := Int.ediv_le_ediv hp h
    rwa [Int.mul_ediv_cancel _ (by omega)] at this
  exact ⟨by omega, by omega, by rw [Int.tdiv_eq_ediv_of_nonneg h0]; omega⟩

set_option maxHeartbeats 400000 in
theorem stretches_c (s p : Int) (v : Value) (w : World) : Calls Try.prog 65 #[.agg #[(.int .i64 s), (.int .i64 p), v]] w fun e w' => e = .returned (.func (.func 71) #[] #[.pointer (some ⟨w.heap.size, 0, none⟩)]) ∧ w' = w.alloc (.cells #[(.int .i64 s), (.int .i64 p), v] 59) := by
  go_enter Try.func65, Try.ntmps65
  go_wp2
  go_ret
  exact ⟨rfl, rfl⟩
theorem stretches_stops (n : Nat) (hn : 1 ≤ n) (Bs n₀ b off cap : Nat) (s p : Int) (l : List Pr) (hv : vaT s p l = true) (hb : b < n₀) (M : List Nat) (hM : ∀ m ∈ M, m < n₀) (hbM : b ∉ M) (hBM : Bs ∉ M) (w : World)
    (hB0 : w.cell? ⟨Bs, 0, none⟩ = some (.int .i64 s)) (hB1 : w.cell? ⟨Bs, 1, none⟩ = some (.int .i64 p)) (hB2 : w.cell? ⟨Bs, 2, none⟩ = some (.slice (some ⟨b, off, none⟩) l.length cap)) (hBl : Bs < n₀) (hn₀ : n₀ ≤ w.heap.size) (hc : Row w b off l) :
    SeqStopsK Fence.wide n Try.prog 71 #[.pointer (some ⟨Bs, 0, none⟩)] encS (Kp M n₀) (fun ys => ys = strS s p l l.length) (fun pre => pre <+: strS s p l l.length) (2 * l.length) w := fun ll J Jx W hW hJ hJx hY h0 =>
  stretches1_in n hn ll Bs n₀ b off cap s p l hv hb M hM hbM hBM J Jx hY W ((hW.cell (p := ⟨Bs, 0, none⟩) (show Bs < w.heap.size by omega)).trans hB0) ((hW.cell (p := ⟨Bs, 1, none⟩) (show Bs < w.heap.size by omega)).trans hB1) ((hW.cell (p := ⟨Bs, 2, none⟩) (show Bs < w.heap.size by omega)).trans hB2) hBl (by have := hW.size; omega) (hc.below (by omega) hW)
    (fun pre A B h hb => hJ pre A B none h (grown_of_below hb) (fun r e => by cases e)) h0

def accK (a r : Pr) (pre : List Se) : Pr := duK a r (pre.map (·.1))
theorem accK_snoc (a r : Pr) (pre : List Se) (x : Se) : accK a r (pre ++ [x]) = duF a (accK a r pre) x.1 := by unfold accK; rw [List.map_append]; exact duK_snoc _ _ _ _
theorem accK_strS {s p : Int} {l : List Pr} (hv : vaT s p l = true) (a r : Pr) : accK a r (strS s p l l.length) = duK a r (stK s p l l.length) := by unfold accK; rw [strS_val hv (Nat.le_refl _)]
theorem accK_ok {a r : Pr} (hr : okH r = true) (pre : List Se) : okH (accK a r pre) = true := duK_ok hr (fun X hX => by
  rw [List.mem_map] at hX
  obtain ⟨y, _, rfl⟩ := hX
  exact (okX_iff.1 y.2).2)


end Go.Proofs.Ytemogomligbgiaa.Ti
