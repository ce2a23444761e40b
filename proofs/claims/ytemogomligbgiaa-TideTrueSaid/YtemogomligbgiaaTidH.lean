/- TidH: what an append and a store leave; the windows so far. -/
import Derived.Test.YtemogomligbgiaaTidG
import Derived.RangeFuncNested
import Derived.LoopTactic
import Derived.Deep.DeepCutAuto
import Derived.Deep.QuietTactic
import Derived.RangeFuncBound
import Derived.RangeFuncCalls
import Derived.RangeFuncLeaves
import Derived.Shelf.Abstract
import Derived.Shelf.RegionOpen
import Derived.WalkKit
import Derived.OwnWalkIn
import Derived.TacticsInMore
import Derived.LoopNIn
import Derived.LoopIn
import Derived.Outline
import Derived.IntWalk
import Derived.Lib.Hide
import Derived.StillTailTactics
import Derived.BigRegion
import Derived.Deep.RegionWith
import Derived.RangeFuncBox
import Derived.Maps.AppendAt
namespace Go.Proofs.Ytemogomligbgiaa.Ti
open Go.RowKit Go.Shelf Sp
set_option linter.unusedSimpArgs false
set_option linter.unusedVariables false

attribute [local go_sem] Oper.semAt_some
theorem info_s : (Try.prog.info? 26).map (fun i => (i.zero, i.size, i.bytes)) = some (some (.agg #[(.int .i64 0), (.int .i64 0)]), 2, 16) := by kernel_rfl
theorem two_new (w : World) (x y : Value) (t : TypeId) : ∀ j u, [x, y][j]? = some u → (w.alloc (.cells #[x, y] t)).cell? ((⟨w.heap.size, 0, none⟩ : Addr).add j) = some u := by
  intro j u h
  match j, h with
  | 0, h => simp at h; subst h; simp [Addr.add]
  | 1, h => simp at h; subst h; simp [Addr.add]
theorem app_all {Wl w1 : World} {n₀ A : Nat} {t : TypeId} {v v' : Value} {k m : Nat} {xs ys : List Value} {tmp : Obj} (hv : Boxed Wl A t v) (hA : A < n₀) (hrow : Wl.ownsRow n₀ 26 2 v k xs) (hn₀ : n₀ ≤ Wl.heap.size)
    (hown' : w1.ownsRow n₀ 26 2 v' m ys) (hgrow : (Wl.alloc tmp).grownBy w1 v.ownBlock) :
    Boxed w1 A t v ∧ Boxed (w1.setCell ⟨A, 0, none⟩ v') A t v' ∧ (w1.setCell ⟨A, 0, none⟩ v').ownsRow n₀ 26 2 v' m ys ∧ KeepsOthers Wl (w1.setCell ⟨A, 0, none⟩ v') ∧ Kp [A] n₀ Wl (w1.setCell ⟨A, 0, none⟩ v') := by
  have hob : ∀ g, v.ownBlock = some g → n₀ ≤ g ∧ ∃ cur, (Wl.alloc tmp).heap[g]? = some (.cells cur 26 (0, 0)) := fun g hg => by
    rcases (hrow.alloc tmp).2 with ⟨rfl, _⟩ | ⟨g', cap, cur, rfl, hb, hgb, _⟩
    · simp [Value.ownBlock] at hg
    · simp [Value.ownBlock] at hg; subst hg; exact ⟨hb, cur, hgb⟩
  have hob' : ∀ g, v'.ownBlock = some g → n₀ ≤ g := fun g hg => by
    rcases hown'.2 with ⟨rfl, _⟩ | ⟨g', cap, cur, rfl, hb, hgb, _⟩
    · simp [Value.ownBlock] at hg
    · simp [Value.ownBlock] at hg; subst hg; exact hb
  have hv1 : Boxed w1 A t v := (hv.alloc tmp).kept hgrow (fun e => by have := (hob A e.symm).1; omega)
  refine ⟨hv1, hv1.set v', hown'.kept (grownBy_setCell' w1 A v') (.inr (fun e => by have := hob' A e; omega)), ?_, ⟨?_, ?_⟩⟩
  · refine ((KeepsOthers.alloc Wl tmp).trans (KeepsOthers.of_grownBy hgrow fun j o ej hj => ?_)).trans (KeepsOthers.setCell _ _ _)
    obtain ⟨_, cur, hc⟩ := hob j ej
    rw [hc] at hj
    cases hj
    rfl
  · have hb : But [A] n₀ Wl w1 := ⟨hgrow.os, hgrow.tape, hgrow.output, by have := hgrow.size; simp at this; omega, fun i hi hn => (hgrow.block i (by simp; omega) (fun e => by have := (hob i e.symm).1; omega)).trans (Below.heap_alloc _ _ _ (by omega))⟩
    exact hb.set (p := ⟨A, 0, none⟩) (by simp) _
  · refine ((Kee.below ((Below.refl _ Wl).alloc (Nat.le_refl _) tmp)).trans (Kee.grown hgrow fun g c z e h => ?_)).set (p := ⟨A, 0, none⟩) (by simp) _
    obtain ⟨_, cur, hc⟩ := hob g e
    rw [hc] at h
    simp at h

theorem store_all {W : World} {n₀ A g n cap j : Nat} {t : TypeId} {xs : List Value} (hv : Boxed W A t (.slice (some ⟨g, 0, none⟩) n cap)) (hA : A < n₀) (hrow : W.ownsRow n₀ 26 2 (.slice (some ⟨g, 0, none⟩) n cap) n xs) (u : Value) :
    Boxed (W.setCell ⟨g, j, none⟩ u) A t (.slice (some ⟨g, 0, none⟩) n cap) ∧ (W.setCell ⟨g, j, none⟩ u).ownsRow n₀ 26 2 (.slice (some ⟨g, 0, none⟩) n cap) n (xs.set j u) ∧ KeepsOthers W (W.setCell ⟨g, j, none⟩ u) ∧ Kp [A] n₀ W (W.setCell ⟨g, j, none⟩ u) := by
  obtain ⟨h1, h2⟩ := hrow.stored j u
  have hob : n₀ ≤ g ∧ ∃ cur, W.heap[g]? = some (.cells cur 26 (0, 0)) := by
    rcases hrow.2 with ⟨h, _⟩ | ⟨g', cap', cur, hv', hb, hgb, _⟩
    · simp at h
    · simp only [Value.slice.injEq, Option.some.injEq, Addr.mk.injEq, and_true, true_and] at hv'
      obtain ⟨rfl, rfl⟩ := hv'
      exact ⟨hb, cur, hgb⟩
  obtain ⟨hg, cur, hc⟩ := hob
  refine ⟨hv.kept h2 (fun e => by simp at e; omega), h1, KeepsOthers.setCell _ _ _, ⟨(But.refl _ _ _).set (p := ⟨g, j, none⟩) (.inr hg) u, Kee.grown h2 fun k c z e h => ?_⟩⟩
  cases e
  rw [hc] at h
  simp at h
theorem flatS_set2 {out : List Pr} {m : Nat} (hm : m < out.length) (u : Int) : flatS (out.set m ((gt out m).1, u)) = (flatS out).set (m * 2 + 1) (.int .i64 u) := by
  rw [flatS_set]
  congr 1
  have h := (flatS_get out m hm).1
  obtain ⟨hl, e⟩ := List.getElem?_eq_some_iff.1 h
  rw [← e]
  exact List.set_getElem_self hl
theorem ko_un {W X : World} (h : KeepsOthers W.drew X) : KeepsOthers W X := ⟨h.1, h.2⟩
theorem kp_un {M : List Nat} {m : Nat} {W X : World} (h : Kp M m W.drew X) : Kp M m W X := ⟨⟨h.but.os, h.but.tape, h.but.output, h.but.size, h.but.block⟩, ⟨h.kee.size, h.kee.cells⟩⟩
theorem ko_dr {W X : World} (h : KeepsOthers W X) : KeepsOthers W X.drew := ⟨h.1, h.2⟩
theorem kp_dr {M : List Nat} {m : Nat} {W X : World} (h : Kp M m W X) : Kp M m W X.drew := ⟨⟨h.but.os, h.but.tape, h.but.output, h.but.size, h.but.block⟩, ⟨h.kee.size, h.kee.cells⟩⟩
theorem bx_dr {X : World} {B : Nat} {t : TypeId} {v : Value} (h : Boxed X B t v) : Boxed X.drew B t v := h
/-- The windows of the stretches so far. -/
def accW (need : Int) (pre : List Se) : List Pr := wiK need (pre.map (·.1))
theorem accW_snoc (need : Int) (pre : List Se) (x : Se) : accW need (pre ++ [x]) = wiF need (accW need pre) x.1 := by unfold accW; rw [List.map_append]; exact wiK_snoc _ _ _
theorem accW_len (need : Int) (pre : List Se) : (accW need pre).length ≤ pre.length := by unfold accW; have := wiK_len need (pre.map (·.1)); rwa [List.length_map] at this
theorem accW_strS {s p : Int} {l : List Pr} (hv : vaT s p l = true) (need : Int) : accW need (strS s p l l.length) = wiT s p l need := by unfold accW; rw [strS_val hv (Nat.le_refl _)]; rfl
theorem wiF_bd {need : Int} {out : List Pr} {X : St} (h : ∀ v ∈ out, 0 ≤ v.2 ∧ v.2 ≤ 10000000) (hx : 0 ≤ X.1.2 ∧ X.1.2 ≤ 10000000) : ∀ v ∈ wiF need out X, 0 ≤ v.2 ∧ v.2 ≤ 10000000 := by
  unfold wiF
  split
  · exact h
  · split
    · intro v hv
      rcases List.mem_or_eq_of_mem_set hv with hv | rfl
      · exact h v hv
      · exact hx
    · intro v hv
      rcases List.mem_append.1 hv with hv | hv
      · exact h v hv
      · simp at hv; subst hv; exact hx
theorem wiK_bd {need : Int} {L : List St} (hL : ∀ X ∈ L, okX X = true) : ∀ v ∈ wiK need L, 0 ≤ v.2 ∧ v.2 ≤ 10000000 := by
  have key : ∀ (L : List St) (out : List Pr), (∀ X ∈ L, okX X = true) → (∀ v ∈ out, 0 ≤ v.2 ∧ v.2 ≤ 10000000) → ∀ v ∈ L.foldl (wiF need) out, 0 ≤ v.2 ∧ v.2 ≤ 10000000 := by
    intro L
    induction L with
    | nil => intro out _ h; exact h
    | cons X L ih =>
      intro out hL h
      refine ih _ (fun Y hY => hL Y (List.mem_cons_of_mem _ hY)) (wiF_bd h ?_)
      have := (okX_iff.1 (hL X List.mem_cons_self)).1
      omega
  exact key L [] hL (by simp)
theorem gt_mem {l : List Pr} {i : Nat} (h : i < l.length) : gt l i ∈ l := by
  unfold gt
  rw [List.getD_eq_getElem?_getD, List.getElem?_eq_getElem h]
  exact List.getElem_mem h
theorem accW_bd (need : Int) (pre : List Se) {i : Nat} (h : i < (accW need pre).length) : 0 ≤ (gt (accW need pre) i).2 ∧ (gt (accW need pre) i).2 ≤ 10000000 :=
  wiK_bd (fun X hX => by rw [List.mem_map] at hX; obtain ⟨y, _, rfl⟩ := hX; exact y.2) _ (gt_mem h)
theorem bxd_below {W W' : World} {B m : Nat} {t : TypeId} {v : Value} (h : Boxed W B t v) (hb : Below m W W') (hm : B < m) : Boxed W' B t v := (hb.block B hm).trans h

end Go.Proofs.Ytemogomligbgiaa.Ti
