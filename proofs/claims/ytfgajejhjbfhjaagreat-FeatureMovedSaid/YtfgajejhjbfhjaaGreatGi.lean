/- PolK: touches. -/
import Derived.Test.YtfgajejhjbfhjaaGreatGh
import Derived.BigRegion
import Derived.Deep.RegionWith
import Derived.Deep.RegionHeld3
import Derived.Test.YtfgajejhjbfhjaaGreatRows
import Derived.RangeFuncNested
import Derived.RangeFuncBound
import Derived.RangeFuncCalls
import Derived.RangeFuncLeaves
import Derived.Shelf.Abstract
import Derived.Shelf.RegionOpen
import Derived.WalkKit
import Derived.OwnWalkIn
import Derived.TacticsInMore
import Derived.LoopNIn
import Derived.LoopIn
import Derived.Outline
import Derived.IntWalk
import Derived.Lib.Hide
section
namespace Go.Proofs.YtfgajejhjbfhjaaGreat.Po
open Go.RowKit Go.Shelf
set_option linter.unusedSimpArgs false
set_option linter.unusedVariables false
attribute [local go_sem] Oper.semAt_some

theorem keepsFrom_of_but {M : List Nat} {m B : Nat} {w W : World} (h : But M m w W) (hm : w.heap.size ≤ m) (hM : ∀ k ∈ M, k < B) : KeepsFrom B w W :=
  ⟨h.size, fun k o hB hk _ => (h.block k (by have := (Array.getElem?_eq_some_iff.1 hk).1; omega) (fun hmem => by have := hM k hmem; omega)).trans hk⟩
theorem But.mono {M : List Nat} {m m' : Nat} {w W : World} (h : But M m w W) (hm : m' ≤ m) : But M m' w W := ⟨h.os, h.tape, h.output, h.size, fun k hk hn => h.block k (by omega) hn⟩
/-- No edge of the one meets one of the other. -/
def apE (es fs : List Ed) : Bool := es.all fun e => fs.all fun g => !meP e.1.1 e.1.2 g.1.1 g.1.2
def ap1 (e : Ed) (fs : List Ed) : Bool := fs.all fun g => !meP e.1.1 e.1.2 g.1.1 g.1.2
theorem apE_snoc (es fs : List Ed) (x : Ed) : apE (es ++ [x]) fs = (apE es fs && ap1 x fs) := by simp [apE, ap1]
theorem ap1_snoc (e : Ed) (fs : List Ed) (x : Ed) : ap1 e (fs ++ [x]) = (ap1 e fs && !meP e.1.1 e.1.2 x.1.1 x.1.2) := by simp [ap1]
theorem ap1_mono {e : Ed} {es fs : List Ed} (h : es <+: fs) (ho : ap1 e es = false) : ap1 e fs = false := by
  obtain ⟨gs, rfl⟩ := h
  unfold ap1 at *
  rw [List.all_append, ho]
  rfl
theorem apE_mono {es es' fs : List Ed} (h : es <+: es') (ho : apE es fs = false) : apE es' fs = false := by
  obtain ⟨gs, rfl⟩ := h
  unfold apE at *
  rw [List.all_append, ho]
  rfl
def apL (l m : List Pt) : Bool := (List.range l.length).all fun i => (List.range m.length).all fun j => !meP (gp l i) (nx l i) (gp m j) (nx m j)
theorem apL_eq (l m : List Pt) (hl : okL l = true) (hm : okL m = true) : apE (eds l hl) (eds m hm) = apL l m := by
  unfold apE apL eds upto
  rw [List.all_map]
  congr 1
  funext i
  simp only [Function.comp]
  rw [List.all_map]
  rfl
def touL (l m : List Pt) : Bool := !apL l m || (!decide (siL (gp m 0) l < 0) || !decide (siL (gp l 0) m < 0))

set_option maxRecDepth 100000 in
set_option maxHeartbeats 8000000 in
theorem touches_in (n : Nat) (hn : 8 ≤ n) (b off cap b2 off2 cap2 : Nat) (l m : List Pt) (hl : okL l = true) (h24 : l.length ≤ 24) (h0l : 0 < l.length) (hm : okL m = true) (m24 : m.length ≤ 24) (h0m : 0 < m.length) (w : World) (hc : Row w b off l) (hcm : Row w b2 off2 m) :
    CallsIn Fence.wide n Tryz.prog 207 #[.slice (some ⟨b, off, none⟩) l.length cap, .slice (some ⟨b2, off2, none⟩) m.length cap2] w fun e W' => e = .returned (.bool (!apE (eds l hl) (eds m hm) || (!decide (siL (gp m 0) l < 0) || !decide (siL (gp l 0) m < 0)))) ∧ Below w.heap.size w W' := by
  have h1 : 1 ≤ n := by omega
  have hbl := hc.lt h0l
  have hbm := hcm.lt h0m
  refine callsIn_of_wp_marks Tryz.func207 rfl trivial ?_ rfl
  simp only [Tryz.ntmps207, List.size_toArray, List.length_cons, List.length_nil, Nat.reduceAdd, Nat.reduceSub, Array.replicate_succ, Array.replicate_zero, List.push_toArray, List.append_toArray, List.nil_append, List.cons_append]
  gi_wp2_with (refine ⟨trivial, ?_⟩; gi_at_call 170; refine (edges_in (n - 1) _ _ _ _).mono ?_; rintro e w' ⟨rfl, rfl⟩)
  obtain ⟨W0, hW0⟩ : ∃ W0, (((w.alloc (.cells #[.slice (some ⟨b2, off2, none⟩) m.length cap2] 158)).alloc (.cells #[.bool false] 4)).alloc (.cells #[.slice (some ⟨b, off, none⟩) l.length cap] 158)) = W0 := ⟨_, rfl⟩
  have bQ : Boxed W0 (w.heap.size) 158 (.slice (some ⟨b2, off2, none⟩) m.length cap2) := by
    have := ((Boxed.new w 158 (.slice (some ⟨b2, off2, none⟩) m.length cap2)).alloc (.cells #[.bool false] 4)).alloc (.cells #[.slice (some ⟨b, off, none⟩) l.length cap] 158)
    rw [← hW0]; exact this
  have bR : Boxed W0 (w.heap.size + 1) 4 (.bool false) := by
    have := (Boxed.new (w.alloc (.cells #[.slice (some ⟨b2, off2, none⟩) m.length cap2] 158)) 4 (.bool false)).alloc (.cells #[.slice (some ⟨b, off, none⟩) l.length cap] 158)
    rw [World.size_alloc] at this; rw [← hW0]; exact this
  have bE : Boxed W0 (w.heap.size + 1 + 1) 158 (.slice (some ⟨b, off, none⟩) l.length cap) := by
    have := Boxed.new ((w.alloc (.cells #[.slice (some ⟨b2, off2, none⟩) m.length cap2] 158)).alloc (.cells #[.bool false] 4)) 158 (.slice (some ⟨b, off, none⟩) l.length cap)
    rw [World.size_alloc, World.size_alloc] at this; rw [← hW0]; exact this
  have hBW0 : Below w.heap.size w W0 := by rw [← hW0]; exact ((((Below.refl _ w).alloc (Nat.le_refl _) _).alloc (by simp <;> omega) _).alloc (by simp <;> omega) _)
  have hszW0 : W0.heap.size = w.heap.size + 3 := by rw [← hW0]; simp
  rw [hW0]
  clear hW0
  have hr0 := hc.below hbl hBW0
  have hq0 := hcm.below hbm hBW0
  refine wpIn_rangeFunc_ownH rfl h1 (gf := 180) (lb := #[.pointer (some ⟨w.heap.size + 1 + 1, 0, none⟩)]) rfl trivial (enters_of Tryz.func180 (by kernel_rfl) rfl)
    (edges_stops (n - 1) (by omega) (w.heap.size + 1 + 1) (w.heap.size + 3) b off cap l hl h24 h0l (by omega) [w.heap.size + 1] (by simp only [List.mem_cons, List.not_mem_nil, or_false]; omega) (by simp only [List.mem_cons, List.not_mem_nil, or_false]; omega) W0 bE.cell (by omega) (by omega) hr0) but_t (but_b (by omega)) (Below.refl _ _) (fun _ => rfl)
    (fun pre W => (apE pre (eds m hm) = true ∧ Boxed W (w.heap.size + 1) 4 (.bool false)) ∧ But [w.heap.size + 1] (w.heap.size + 3) W0 W)
    (fun c pre W => ((c = .ret ∧ apE pre (eds m hm) = false) ∧ Boxed W (w.heap.size + 1) 4 (.bool true)) ∧ But [w.heap.size + 1] (w.heap.size + 3) W0 W)
    (OwnFrom.and (OwnFrom.and (ownFrom_pure _ _) (Own.from (boxed_own _ _ (fun _ => Value.bool false)) _)) (ownFrom_but (by omega) (by omega)))
    (fun c => OwnFrom.and (OwnFrom.and (ownFrom_pure _ _) (Own.from (boxed_own _ _ (fun _ => Value.bool true)) _)) (ownFrom_but (by omega) (by omega)))
    ⟨⟨rfl, bR⟩, But.refl _ _ _⟩
    (fun x a' W => ∃ Bx By, Box2 W Bx 23 x.1.1 ∧ Box2 W By 23 x.1.2 ∧ (w.heap.size + 3 ≤ Bx ∧ w.heap.size + 3 ≤ By) ∧ a' = { tmps := #[.slice (some ⟨b, off, none⟩) l.length cap, .slice (some ⟨b2, off2, none⟩) m.length cap2, undef, .pointer (some ⟨w.heap.size, 0, none⟩), .pointer (some ⟨w.heap.size + 1, 0, none⟩), .pointer (some ⟨Bx, 0, none⟩), .pointer (some ⟨By, 0, none⟩), undef, undef, .slice (some ⟨b, off, none⟩) l.length cap, .func (.func 180) #[] #[.pointer (some ⟨w.heap.size + 1 + 1, 0, none⟩)], .agg #[(.int .i64 (x.1.1.1)), (.int .i64 (x.1.1.2))], .agg #[(.int .i64 (x.1.2.1)), (.int .i64 (x.1.2.2))], undef, undef, undef, undef, undef, undef, undef, undef, undef, undef, undef, undef, undef, undef, undef, undef, undef, undef, undef, undef, undef, undef, undef], defers := [] })
    (fun x a' _ X Y row hs hg hr => by
      obtain ⟨Bx, By, e1, e2, e4, e3⟩ := hs
      exact ⟨Bx, By, box2_own Bx _ (fun (_ : Unit) => x.1.1) () X Y row e1 hg (fun r e => (hr r e).2), box2_own By _ (fun (_ : Unit) => x.1.2) () X Y row e2 hg (fun r e => (hr r e).2), e4, e3⟩)
    ?assign ?body ?done ?stop
  case assign =>
    rintro ll pre x W K ⟨⟨hon, bR1⟩, hB1⟩ hK
    have hs1 := hB1.size
    unfold encE
    gi_wp2
    obtain ⟨t1, t2, t3, t4⟩ := two_boxes W 23 x.1.1 x.1.2 [w.heap.size + 1] (w.heap.size + 3) W0.heap.size (by omega)
    exact hK _ _ t1 t2 ⟨⟨hon, (bR1.alloc _).alloc _⟩, hB1.trans t2⟩ ⟨_, _, t3, t4, by omega, rfl⟩
  case body =>
    rintro ll pre ⟨⟨⟨a1, a2⟩, b1, d2⟩, ha, hb⟩ a' W hll ⟨rr, hr⟩ ⟨⟨hon, bR1⟩, hB1⟩ ⟨Bx, By, bx, by', ⟨hBx, hBy⟩, rfl⟩ hlt
    have hso := apE_snoc pre (eds m hm) ⟨((a1, a2), b1, d2), ha, hb⟩
    have hxa : ok a1 a2 := ha
    have hxb : ok b1 d2 := hb
    have hsW := hB1.size
    have bQ1 := hB1.boxed (by omega) (by simp only [List.mem_cons, List.not_mem_nil, or_false]; omega) bQ
    have kq := bQ1.cell
    have HO := Lib.hid hso
    have HN := Lib.hid hon
    have hqW := hB1.row (b := b2) (by omega) (by simp only [List.mem_cons, List.not_mem_nil, or_false]; omega) hq0
    have HQW := Lib.hid hqW
    clear hso hon hqW
    have h1' : 1 ≤ n - 1 - 1 := by omega
    have lx := bx.lt
    have ly := by'.lt
    gi_wp2_with (refine ⟨trivial, ?_⟩; gi_at_call 170; refine (CallsIn.inRound ll (edges_in (n - 1 - 1 - 1) _ _ _ _)).mono ?_; rintro e w' ⟨rfl, rfl⟩)
    have hr' : (W.alloc (.cells #[.slice (some ⟨b2, off2, none⟩) m.length cap2] 158)).heap[ll]? = some (.loop rr) := (Below.heap_alloc W _ ll (Array.getElem?_eq_some_iff.1 hr).1).trans hr
    have bN := Boxed.new W 158 (.slice (some ⟨b2, off2, none⟩) m.length cap2)
    have hbW1 : Below W.heap.size W (W.alloc (.cells #[.slice (some ⟨b2, off2, none⟩) m.length cap2] 158)) := (Below.refl _ W).alloc (Nat.le_refl _) _
    have hsW1 : (W.alloc (.cells #[.slice (some ⟨b2, off2, none⟩) m.length cap2] 158)).heap.size = W.heap.size + 1 := by simp
    obtain ⟨W1, hW1⟩ : ∃ W1, W.alloc (.cells #[.slice (some ⟨b2, off2, none⟩) m.length cap2] 158) = W1 := ⟨_, rfl⟩
    rw [hW1] at hr' bN hbW1 hsW1 ⊢
    clear hW1
    have bR1' := bxd_below bR1 hbW1 (by omega)
    refine wpIn_rangeFunc_ownN (l₀ := ll) (r₀ := rr) rfl hr' h1' (gf := 180) (lb := #[.pointer (some ⟨W.heap.size, 0, none⟩)]) rfl trivial (enters_of Tryz.func180 (by kernel_rfl) rfl)
      ((edges_stops (n - 1 - 1 - 1) (by omega) W.heap.size (W.heap.size + 1) b2 off2 cap2 m hm m24 h0m (by omega) [w.heap.size + 1] (by simp only [List.mem_cons, List.not_mem_nil, or_false]; omega) (by simp only [List.mem_cons, List.not_mem_nil, or_false]; omega) W1 bN.cell (by omega) (by omega) (HQW.out.below (by omega) hbW1)).inRound ll) but_t (but_b (by omega)) (Below.refl _ _) (fun _ => rfl)
      (fun pre2 W2 => (ap1 ⟨((a1, a2), b1, d2), ha, hb⟩ pre2 = true ∧ Boxed W2 (w.heap.size + 1) 4 (.bool false)) ∧ But [w.heap.size + 1] (W.heap.size + 1) W1 W2)
      (fun c pre2 W2 => ((c = .ret ∧ ap1 ⟨((a1, a2), b1, d2), ha, hb⟩ pre2 = false) ∧ Boxed W2 (w.heap.size + 1) 4 (.bool true)) ∧ But [w.heap.size + 1] (W.heap.size + 1) W1 W2)
      (OwnFrom.and (OwnFrom.and (ownFrom_pure _ _) (Own.from (boxed_own _ _ (fun _ => Value.bool false)) _)) (ownFrom_but (by omega) (by omega)))
      (fun c => OwnFrom.and (OwnFrom.and (ownFrom_pure _ _) (Own.from (boxed_own _ _ (fun _ => Value.bool true)) _)) (ownFrom_but (by omega) (by omega)))
      ⟨⟨rfl, bR1'⟩, But.refl _ _ _⟩
      (fun y a'' W2 => ∃ Cx Cy, Box2 W2 Cx 23 y.1.1 ∧ Box2 W2 Cy 23 y.1.2 ∧ a'' = { tmps := #[.slice (some ⟨b, off, none⟩) l.length cap, .slice (some ⟨b2, off2, none⟩) m.length cap2, undef, .pointer (some ⟨w.heap.size, 0, none⟩), .pointer (some ⟨w.heap.size + 1, 0, none⟩), .pointer (some ⟨Bx, 0, none⟩), .pointer (some ⟨By, 0, none⟩), .pointer (some ⟨Cx, 0, none⟩), .pointer (some ⟨Cy, 0, none⟩), .slice (some ⟨b, off, none⟩) l.length cap, .func (.func 180) #[] #[.pointer (some ⟨w.heap.size + 1 + 1, 0, none⟩)], .agg #[(.int .i64 a1), (.int .i64 a2)], .agg #[(.int .i64 b1), (.int .i64 d2)], .slice (some ⟨b2, off2, none⟩) m.length cap2, .func (.func 180) #[] #[.pointer (some ⟨W.heap.size, 0, none⟩)], .agg #[(.int .i64 (y.1.1.1)), (.int .i64 (y.1.1.2))], .agg #[(.int .i64 (y.1.2.1)), (.int .i64 (y.1.2.2))], undef, undef, undef, undef, undef, undef, undef, undef, undef, undef, undef, undef, undef, undef, undef, undef, undef, undef, undef], defers := [] })
      (fun y a'' _ X Y row hs hg hr => by
        obtain ⟨Cx, Cy, e1, e2, e3⟩ := hs
        exact ⟨Cx, Cy, box2_own Cx _ (fun (_ : Unit) => y.1.1) () X Y row e1 hg (fun r e => (hr r e).2), box2_own Cy _ (fun (_ : Unit) => y.1.2) () X Y row e2 hg (fun r e => (hr r e).2), e3⟩)
      ?assign2 ?body2 ?done2 ?stop2
    case assign2 =>
      rintro l2 pre2 y W2 K ⟨⟨hon, bR2⟩, hB2⟩ hK
      have hs1 := hB2.size
      unfold encE
      gi_wp2
      obtain ⟨t1, t2, t3, t4⟩ := two_boxes W2 23 y.1.1 y.1.2 [w.heap.size + 1] (W.heap.size + 1) W1.heap.size (by omega)
      exact hK _ _ t1 t2 ⟨⟨hon, (bR2.alloc _).alloc _⟩, hB2.trans t2⟩ ⟨_, _, t3, t4, rfl⟩
    case body2 =>
      rintro l2 pre2 ⟨⟨⟨c1, c2⟩, d1, e2⟩, hcc, hcd⟩ a'' W2 hl2 ⟨r2, hr2⟩ ⟨⟨hon2, bR2⟩, hB2⟩ ⟨Cx, Cy, cx, cy, rfl⟩ hlt2
      have hso2 := ap1_snoc ⟨((a1, a2), b1, d2), ha, hb⟩ pre2 ⟨((c1, c2), d1, e2), hcc, hcd⟩
      have hxc : ok c1 c2 := hcc
      have hxd : ok d1 e2 := hcd
      have hs2 := hB2.size
      have bx2 := hB2.box2 (by omega) (by simp only [List.mem_cons, List.not_mem_nil, or_false]; omega) (box2_below bx hbW1 lx)
      have by2 := hB2.box2 (by omega) (by simp only [List.mem_cons, List.not_mem_nil, or_false]; omega) (box2_below by' hbW1 ly)
      have k0 := bx2.c0
      have k1 := bx2.c1
      have k2 := by2.c0
      have k3 := by2.c1
      have k4 := cx.c0
      have k5 := cx.c1
      have k6 := cy.c0
      have k7 := cy.c1
      dsimp only at k0 k1 k2 k3 k4 k5 k6 k7
      have HO2 := Lib.hid hso2
      have HN2 := Lib.hid hon2
      clear hso2 hon2
      have h2' : 1 ≤ n - 1 - 1 - 1 - 1 := by omega
      have zr : w.heap.size + 1 < W2.heap.size := by omega
      gi_wp2_with fail
      refine ⟨trivial, ?_⟩
      refine (CallsIn.inRound l2 (CallsIn.inRound ll (callsIn_wide.2 (pmeet_c _ _ _ _ _ _ _ _ _ hxa hxb hxc hxd)))).mono ?_
      rintro e w1 ⟨rfl, hb1⟩
      have hbs := hb1.size
      have bR3 := bxd_below bR2 hb1 zr
      have kR := bR3.cell
      have fR := bR3.frozen
      have hbut : But [w.heap.size + 1] (W.heap.size + 1) W2 w1 := But.of_below hb1 (by omega)
      have hkf := (keeps_of_below hb1).from W1.heap.size
      clear hb1
      cases hv : meetB a1 a2 b1 d2 c1 c2 d1 e2
      · have HV := Lib.hid (show meP (a1, a2) (b1, d2) (c1, c2) (d1, e2) = false from hv)
        gi_wp2
        exact ⟨hkf, hbut, ⟨by rw [HO2.out, HN2.out, HV.out]; rfl, bR3⟩, hB2.trans hbut⟩
      · have HV := Lib.hid (show meP (a1, a2) (b1, d2) (c1, c2) (d1, e2) = true from hv)
        gi_wp2
        exact ⟨hkf.trans ((KeepsOthers.setCell _ _ _).from _), ⟨⟨rfl, by rw [HO2.out, HV.out]; simp⟩, bR3.set _⟩, (hB2.trans hbut).set (p := ⟨w.heap.size + 1, 0, none⟩) (by simp) _⟩
    case done2 =>
      rintro ys2 W2 rfl ⟨⟨hon2, bR2⟩, hB2⟩
      have HN2 := Lib.hid hon2
      clear hon2
      have hB3 : But [w.heap.size + 1] W.heap.size W W2 := (But.of_below hbW1 (Nat.le_refl _)).trans (hB2.mono (by omega))
      have hkf := keepsFrom_of_but (B := W0.heap.size) hB3 (Nat.le_refl _) (by simp; omega)
      have hbut : But [w.heap.size + 1] (w.heap.size + 3) W W2 := hB3.mono (by omega)
      gi_wp2
      exact ⟨hkf, hbut, ⟨by rw [HO.out, HN.out, HN2.out]; rfl, bR2⟩, hB1.trans hbut⟩
    case stop2 =>
      rintro c pre2 W2 hpre2 ⟨⟨⟨rfl, hin⟩, bR2⟩, hB2⟩
      have hB3 : But [w.heap.size + 1] W.heap.size W W2 := (But.of_below hbW1 (Nat.le_refl _)).trans (hB2.mono (by omega))
      have hkf := keepsFrom_of_but (B := W0.heap.size) hB3 (Nat.le_refl _) (by simp; omega)
      have hbut : But [w.heap.size + 1] (w.heap.size + 3) W W2 := hB3.mono (by omega)
      gi_wp2
      exact ⟨hkf, ⟨⟨rfl, by rw [HO.out, ap1_mono hpre2 hin]; simp⟩, bR2⟩, hB1.trans hbut⟩
  case done =>
    rintro D ys W hD rfl ⟨⟨hon, bR1⟩, hB1⟩ hK
    have hsW := hB1.size
    have bQ1 := hB1.boxed (by omega) (by simp only [List.mem_cons, List.not_mem_nil, or_false]; omega) bQ
    have kq := bQ1.cell
    have hpW := hB1.row (b := b) (by omega) (by simp only [List.mem_cons, List.not_mem_nil, or_false]; omega) hr0
    have hqW := hB1.row (b := b2) (by omega) (by simp only [List.mem_cons, List.not_mem_nil, or_false]; omega) hq0
    obtain ⟨c1, c2⟩ := hpW 0 h0l
    obtain ⟨c3, c4⟩ := hqW 0 h0m
    simp only [Nat.zero_mul, Nat.add_zero] at c1 c2 c3 c4
    have HPW := Lib.hid hpW
    have HQW := Lib.hid hqW
    have HN := Lib.hid hon
    clear hon hpW hqW
    have hDW := (Array.getElem?_eq_some_iff.1 hK).1
    have zr : w.heap.size + 1 < W.heap.size := by omega
    have zq : w.heap.size < W.heap.size := by omega
    have zb : b < W.heap.size := by omega
    have zc : b2 < W.heap.size := by omega
    have o1 := okL_gp hl 0
    have o2 := okL_gp hm 0
    unfold okP at o1 o2
    have y1 : (0 : Int) < (l.length : Int) := by omega
    have y2 : (0 : Int) < (m.length : Int) := by omega
    have kR := bR1.cell
    have fR := bR1.frozen
    have n1 : w.heap.size + 1 ≠ b := by omega
    have n2 : w.heap.size + 1 ≠ b2 := by omega
    have n3 : b ≠ w.heap.size + 1 := by omega
    have n4 : b2 ≠ w.heap.size + 1 := by omega
    cases hv : decide (siL (gp m 0) l < 0)
    · have HV := Lib.hid hv
      gi_wp2_with fail
      have hHeld : (fun w' : World => w'.cell? ⟨w.heap.size, 0, none⟩ = some (.slice (some ⟨b2, off2, none⟩) m.length cap2) ∧ w'.cell? ⟨b, off, none⟩ = some (.int .i64 ((gp l 0).1)) ∧ w'.cell? ⟨b, off + 1, none⟩ = some (.int .i64 ((gp l 0).2)) ∧ w'.cell? ⟨b2, off2, none⟩ = some (.int .i64 ((gp m 0).1)) ∧ w'.cell? ⟨b2, off2 + 1, none⟩ = some (.int .i64 ((gp m 0).2))) W.drew := ⟨kq, c1, c2, c3, c4⟩
      refine wpIn_mono (Q := NoPanic _) ?_ (fun e a w h => NoPanic.imp e a w h)
      refine wpIn_region_heldF (S := fun w' => w'.cell? ⟨w.heap.size, 0, none⟩ = some (.slice (some ⟨b2, off2, none⟩) m.length cap2) ∧ w'.cell? ⟨b, off, none⟩ = some (.int .i64 ((gp l 0).1)) ∧ w'.cell? ⟨b, off + 1, none⟩ = some (.int .i64 ((gp l 0).2)) ∧ w'.cell? ⟨b2, off2, none⟩ = some (.int .i64 ((gp m 0).1)) ∧ w'.cell? ⟨b2, off2 + 1, none⟩ = some (.int .i64 ((gp m 0).2))) (by kernel_rfl) ?_
      refine wpAnyHF_take (i := 0) (oi := ⟨some 22, _, _, _, _, _⟩) (v := ?_) rfl rfl (by kernel_rfl) (by kernel_rfl) (by kernel_rfl) (fun _ _ _ h => h) (Or.inl ⟨by rfl, ?_⟩) (fun _ => rfl) (by assumption) ?_
      rotate_left
      · intro w hSw; (try dsimp only at hSw); go_simp; try with_reducible rfl
      try simp only [Act.put, List.setIfInBounds_toArray, List.set_cons_zero, List.set_cons_succ]
      refine wpAnyHF_take (i := 1) (oi := ⟨some 23, _, _, _, _, _⟩) (v := ?_) rfl rfl (by kernel_rfl) (by kernel_rfl) (by kernel_rfl) (fun _ _ _ h => h) (Or.inl ⟨by rfl, ?_⟩) (fun _ => rfl) (by assumption) ?_
      rotate_left
      · intro w hSw; (try dsimp only at hSw); go_simp; try with_reducible rfl
      try simp only [Act.put, List.setIfInBounds_toArray, List.set_cons_zero, List.set_cons_succ]
      refine wpAnyHF_take (i := 2) (oi := ⟨some 24, _, _, _, _, _⟩) (v := ?_) rfl rfl (by kernel_rfl) (by kernel_rfl) (by kernel_rfl) (fun _ _ _ h => h) (Or.inl ⟨by rfl, ?_⟩) (fun _ => rfl) (by assumption) ?_
      rotate_left
      · intro w hSw; (try dsimp only at hSw); go_simp; try with_reducible rfl
      try simp only [Act.put, List.setIfInBounds_toArray, List.set_cons_zero, List.set_cons_succ]
      refine wpAnyHF_take (i := 3) (oi := ⟨some 25, _, _, _, _, _⟩) (v := ?_) rfl rfl (by kernel_rfl) (by kernel_rfl) (by kernel_rfl) (fun _ _ _ h => h) (Or.inl ⟨by rfl, ?_⟩) (fun _ => rfl) (by assumption) ?_
      rotate_left
      · intro w hSw; (try dsimp only at hSw); go_simp; try with_reducible rfl
      try simp only [Act.put, List.setIfInBounds_toArray, List.set_cons_zero, List.set_cons_succ]
      refine wpAnyHF_one (i := 4) (o := ⟨some 26, _, _, _, _, _⟩) (by kernel_rfl) rfl (by rfl) (fun KK hKK => ?_)
      go_simp
      refine ⟨trivial, ?_⟩
      refine (callsIn_wide.2 (lacks_c b off cap l _ _ _ hl o2 h24 h0l (HPW.out.below zb ((Below.refl _ W).drew)))).mono ?_
      rintro e w5 ⟨rfl, hbw5⟩
      have hbWw5 : Below W.heap.size W w5 := Below.trans ((Below.refl _ W).drew) hbw5
      obtain ⟨hcq, hfq⟩ := bcell hbWw5
      have hszw5 := hbWw5.size
      have bR5 := bxd_below bR1 hbWw5 zr
      have kR5 := bR5.cell
      have fR5 := bR5.frozen
      have hK5 : w5.heap[D]? = some (.deferred (some [])) := (hbWw5.block D hDW).trans hK
      have hbut : But [w.heap.size + 1] (w.heap.size + 3) W w5 := But.of_below hbWw5 (by omega)
      have qw50 := fun o => hcq (w.heap.size) o (by omega)
      have qw51 := fun o => hcq (b) o (by omega)
      have qw52 := fun o => hcq (b2) o (by omega)
      clear hcq hfq hbw5
      (try gi_wp2_with fail)
      refine hKK _ _ (by first | (go_keep; done) | ((repeat' apply And.intro) <;> go_simp)) (fun hHeld => ?_)
      clear hKK KK
      try simp only [Act.put, List.setIfInBounds_toArray, List.set_cons_zero, List.set_cons_succ]
      refine wpAnyHF_take (i := 5) (oi := ⟨some 27, _, _, _, _, _⟩) (v := ?_) rfl rfl (by kernel_rfl) (by kernel_rfl) (by kernel_rfl) (fun _ _ _ h => h) (Or.inl ⟨by rfl, ?_⟩) (fun _ => rfl) (by assumption) ?_
      rotate_left
      · intro w hSw; (try dsimp only at hSw); go_simp; try with_reducible rfl
      try simp only [Act.put, List.setIfInBounds_toArray, List.set_cons_zero, List.set_cons_succ]
      refine wpAnyHF_take (i := 6) (oi := ⟨some 28, _, _, _, _, _⟩) (v := ?_) rfl rfl (by kernel_rfl) (by kernel_rfl) (by kernel_rfl) (fun _ _ _ h => h) (Or.inl ⟨by rfl, ?_⟩) (fun _ => rfl) (by assumption) ?_
      rotate_left
      · intro w hSw; (try dsimp only at hSw); go_simp; try with_reducible rfl
      try simp only [Act.put, List.setIfInBounds_toArray, List.set_cons_zero, List.set_cons_succ]
      refine wpAnyHF_take (i := 7) (oi := ⟨some 29, _, _, _, _, _⟩) (v := undef) rfl rfl (by kernel_rfl) (by kernel_rfl) (by kernel_rfl) (fun _ _ _ h => h) (Or.inr ⟨by rfl, rfl⟩) (fun _ => rfl) (by assumption) ?_
      try simp only [Act.put, List.setIfInBounds_toArray, List.set_cons_zero, List.set_cons_succ]
      refine wpAnyHF_take (i := 8) (oi := ⟨some 30, _, _, _, _, _⟩) (v := undef) rfl rfl (by kernel_rfl) (by kernel_rfl) (by kernel_rfl) (fun _ _ _ h => h) (Or.inr ⟨by rfl, rfl⟩) (fun _ => rfl) (by assumption) ?_
      try simp only [Act.put, List.setIfInBounds_toArray, List.set_cons_zero, List.set_cons_succ]
      refine wpAnyHF_take (i := 9) (oi := ⟨some 31, _, _, _, _, _⟩) (v := undef) rfl rfl (by kernel_rfl) (by kernel_rfl) (by kernel_rfl) (fun _ _ _ h => h) (Or.inr ⟨by rfl, rfl⟩) (fun _ => rfl) (by assumption) ?_
      try simp only [Act.put, List.setIfInBounds_toArray, List.set_cons_zero, List.set_cons_succ]
      refine wpAnyHF_take (i := 10) (oi := ⟨some 32, _, _, _, _, _⟩) (v := undef) rfl rfl (by kernel_rfl) (by kernel_rfl) (by kernel_rfl) (fun _ _ _ h => h) (Or.inr ⟨by rfl, rfl⟩) (fun _ => rfl) (by assumption) ?_
      try simp only [Act.put, List.setIfInBounds_toArray, List.set_cons_zero, List.set_cons_succ]
      refine wpAnyHF_skip (i := 11) (o := ⟨some 33, _, _, _, _, _⟩) (by kernel_rfl) rfl (by rfl) (fun _ _ => trivial) (by assumption) ?_
      try simp only [Act.put, List.setIfInBounds_toArray, List.set_cons_zero, List.set_cons_succ]
      refine wpAnyHF_take (i := 12) (oi := ⟨some 34, _, _, _, _, _⟩) (v := undef) rfl rfl (by kernel_rfl) (by kernel_rfl) (by kernel_rfl) (fun _ _ _ h => h) (Or.inr ⟨by rfl, rfl⟩) (fun _ => rfl) (by assumption) ?_
      try simp only [Act.put, List.setIfInBounds_toArray, List.set_cons_zero, List.set_cons_succ]
      refine wpAnyHF_take (i := 13) (oi := ⟨some 35, _, _, _, _, _⟩) (v := ?_) rfl rfl (by kernel_rfl) (by kernel_rfl) (by kernel_rfl) (fun _ _ _ h => h) (Or.inl ⟨by rfl, ?_⟩) (fun _ => rfl) (by assumption) ?_
      rotate_left
      · intro w hSw; (try dsimp only at hSw); go_simp; try with_reducible rfl
      try simp only [Act.put, List.setIfInBounds_toArray, List.set_cons_zero, List.set_cons_succ]
      refine wpAnyHF_one (i := 14) (o := ⟨none, _, _, _, _, _⟩) (by kernel_rfl) rfl (by rfl) (fun KK hKK => ?_)
      go_simp
      (try gi_wp2_with fail)
      refine hKK _ _ (by first | (go_keep; done) | ((repeat' apply And.intro) <;> go_simp)) (fun hHeld => ?_)
      clear hKK KK
      try simp only [Act.put, List.setIfInBounds_toArray, List.set_cons_zero, List.set_cons_succ]
      refine wpAnyHF_done (by kernel_rfl) (NoPanic.normal ?_) _
      have hK' := (KeepsOthers.setCell w5 ⟨w.heap.size + 1, 0, none⟩ (.bool true)).same D _ hK5 rfl
      gi_wp2
      refine ⟨by simp, .inl ⟨_, _, rfl, run_takeDeferred hK', ?_⟩⟩
      have hc5 := cell_kept (bR5.set (.bool true)).cell (grownBy_putObj' _ D (.deferred none)) (fun r e => by cases e; exact ⟨_, hK', rfl⟩)
      refine ⟨.bool true, ?_, by rw [HN.out, HV.out]; rfl, ?_⟩
      · simp [results, Tryz.f207, go_sem, hc5]
      · exact (hBW0.trans (((hB1.trans hbut).below (by omega) (by simp)).setCell (p := ⟨w.heap.size + 1, 0, none⟩) (by simp) _)).trans (belowK_b (w := w) (Nat.le_refl _) _ D _ _ (by omega) hK' rfl rfl)
    · have HV := Lib.hid hv
      cases hu : decide (siL (gp l 0) m < 0)
      all_goals
        have HU := Lib.hid hu
        gi_wp2_with fail
        have hHeld : (fun w' : World => w'.cell? ⟨w.heap.size, 0, none⟩ = some (.slice (some ⟨b2, off2, none⟩) m.length cap2) ∧ w'.cell? ⟨b, off, none⟩ = some (.int .i64 ((gp l 0).1)) ∧ w'.cell? ⟨b, off + 1, none⟩ = some (.int .i64 ((gp l 0).2)) ∧ w'.cell? ⟨b2, off2, none⟩ = some (.int .i64 ((gp m 0).1)) ∧ w'.cell? ⟨b2, off2 + 1, none⟩ = some (.int .i64 ((gp m 0).2))) W.drew := ⟨kq, c1, c2, c3, c4⟩
        refine wpIn_mono (Q := NoPanic _) ?_ (fun e a w h => NoPanic.imp e a w h)
        refine wpIn_region_heldF (S := fun w' => w'.cell? ⟨w.heap.size, 0, none⟩ = some (.slice (some ⟨b2, off2, none⟩) m.length cap2) ∧ w'.cell? ⟨b, off, none⟩ = some (.int .i64 ((gp l 0).1)) ∧ w'.cell? ⟨b, off + 1, none⟩ = some (.int .i64 ((gp l 0).2)) ∧ w'.cell? ⟨b2, off2, none⟩ = some (.int .i64 ((gp m 0).1)) ∧ w'.cell? ⟨b2, off2 + 1, none⟩ = some (.int .i64 ((gp m 0).2))) (by kernel_rfl) ?_
        refine wpAnyHF_take (i := 0) (oi := ⟨some 22, _, _, _, _, _⟩) (v := ?_) rfl rfl (by kernel_rfl) (by kernel_rfl) (by kernel_rfl) (fun _ _ _ h => h) (Or.inl ⟨by rfl, ?_⟩) (fun _ => rfl) (by assumption) ?_
        rotate_left
        · intro w hSw; (try dsimp only at hSw); go_simp; try with_reducible rfl
        try simp only [Act.put, List.setIfInBounds_toArray, List.set_cons_zero, List.set_cons_succ]
        refine wpAnyHF_take (i := 1) (oi := ⟨some 23, _, _, _, _, _⟩) (v := ?_) rfl rfl (by kernel_rfl) (by kernel_rfl) (by kernel_rfl) (fun _ _ _ h => h) (Or.inl ⟨by rfl, ?_⟩) (fun _ => rfl) (by assumption) ?_
        rotate_left
        · intro w hSw; (try dsimp only at hSw); go_simp; try with_reducible rfl
        try simp only [Act.put, List.setIfInBounds_toArray, List.set_cons_zero, List.set_cons_succ]
        refine wpAnyHF_take (i := 2) (oi := ⟨some 24, _, _, _, _, _⟩) (v := ?_) rfl rfl (by kernel_rfl) (by kernel_rfl) (by kernel_rfl) (fun _ _ _ h => h) (Or.inl ⟨by rfl, ?_⟩) (fun _ => rfl) (by assumption) ?_
        rotate_left
        · intro w hSw; (try dsimp only at hSw); go_simp; try with_reducible rfl
        try simp only [Act.put, List.setIfInBounds_toArray, List.set_cons_zero, List.set_cons_succ]
        refine wpAnyHF_take (i := 3) (oi := ⟨some 25, _, _, _, _, _⟩) (v := ?_) rfl rfl (by kernel_rfl) (by kernel_rfl) (by kernel_rfl) (fun _ _ _ h => h) (Or.inl ⟨by rfl, ?_⟩) (fun _ => rfl) (by assumption) ?_
        rotate_left
        · intro w hSw; (try dsimp only at hSw); go_simp; try with_reducible rfl
        try simp only [Act.put, List.setIfInBounds_toArray, List.set_cons_zero, List.set_cons_succ]
        refine wpAnyHF_one (i := 4) (o := ⟨some 26, _, _, _, _, _⟩) (by kernel_rfl) rfl (by rfl) (fun KK hKK => ?_)
        go_simp
        refine ⟨trivial, ?_⟩
        refine (callsIn_wide.2 (lacks_c b off cap l _ _ _ hl o2 h24 h0l (HPW.out.below zb ((Below.refl _ W).drew)))).mono ?_
        rintro e w5 ⟨rfl, hbw5⟩
        have hbWw5 : Below W.heap.size W w5 := Below.trans ((Below.refl _ W).drew) hbw5
        obtain ⟨hcq, hfq⟩ := bcell hbWw5
        have hszw5 := hbWw5.size
        have bR5 := bxd_below bR1 hbWw5 zr
        have kR5 := bR5.cell
        have fR5 := bR5.frozen
        have hK5 : w5.heap[D]? = some (.deferred (some [])) := (hbWw5.block D hDW).trans hK
        have hbutx : But [w.heap.size + 1] (w.heap.size + 3) W w5 := But.of_below hbWw5 (by omega)
        have qw50 := fun o => hcq (w.heap.size) o (by omega)
        have qw51 := fun o => hcq (b) o (by omega)
        have qw52 := fun o => hcq (b2) o (by omega)
        clear hcq hfq hbw5
        (try gi_wp2_with fail)
        refine hKK _ _ (by first | (go_keep; done) | ((repeat' apply And.intro) <;> go_simp)) (fun hHeld => ?_)
        clear hKK KK
        try simp only [Act.put, List.setIfInBounds_toArray, List.set_cons_zero, List.set_cons_succ]
        refine wpAnyHF_take (i := 5) (oi := ⟨some 27, _, _, _, _, _⟩) (v := ?_) rfl rfl (by kernel_rfl) (by kernel_rfl) (by kernel_rfl) (fun _ _ _ h => h) (Or.inl ⟨by rfl, ?_⟩) (fun _ => rfl) (by assumption) ?_
        rotate_left
        · intro w hSw; (try dsimp only at hSw); go_simp; try with_reducible rfl
        try simp only [Act.put, List.setIfInBounds_toArray, List.set_cons_zero, List.set_cons_succ]
        refine wpAnyHF_take (i := 6) (oi := ⟨some 28, _, _, _, _, _⟩) (v := ?_) rfl rfl (by kernel_rfl) (by kernel_rfl) (by kernel_rfl) (fun _ _ _ h => h) (Or.inl ⟨by rfl, ?_⟩) (fun _ => rfl) (by assumption) ?_
        rotate_left
        · intro w hSw; (try dsimp only at hSw); go_simp; try with_reducible rfl
        try simp only [Act.put, List.setIfInBounds_toArray, List.set_cons_zero, List.set_cons_succ]
        refine wpAnyHF_take (i := 7) (oi := ⟨some 29, _, _, _, _, _⟩) (v := ?_) rfl rfl (by kernel_rfl) (by kernel_rfl) (by kernel_rfl) (fun _ _ _ h => h) (Or.inl ⟨by rfl, ?_⟩) (fun _ => rfl) (by assumption) ?_
        rotate_left
        · intro w hSw; (try dsimp only at hSw); go_simp; try with_reducible rfl
        try simp only [Act.put, List.setIfInBounds_toArray, List.set_cons_zero, List.set_cons_succ]
        refine wpAnyHF_take (i := 8) (oi := ⟨some 30, _, _, _, _, _⟩) (v := ?_) rfl rfl (by kernel_rfl) (by kernel_rfl) (by kernel_rfl) (fun _ _ _ h => h) (Or.inl ⟨by rfl, ?_⟩) (fun _ => rfl) (by assumption) ?_
        rotate_left
        · intro w hSw; (try dsimp only at hSw); go_simp; try with_reducible rfl
        try simp only [Act.put, List.setIfInBounds_toArray, List.set_cons_zero, List.set_cons_succ]
        refine wpAnyHF_take (i := 9) (oi := ⟨some 31, _, _, _, _, _⟩) (v := ?_) rfl rfl (by kernel_rfl) (by kernel_rfl) (by kernel_rfl) (fun _ _ _ h => h) (Or.inl ⟨by rfl, ?_⟩) (fun _ => rfl) (by assumption) ?_
        rotate_left
        · intro w hSw; (try dsimp only at hSw); go_simp; try with_reducible rfl
        try simp only [Act.put, List.setIfInBounds_toArray, List.set_cons_zero, List.set_cons_succ]
        refine wpAnyHF_take (i := 10) (oi := ⟨some 32, _, _, _, _, _⟩) (v := ?_) rfl rfl (by kernel_rfl) (by kernel_rfl) (by kernel_rfl) (fun _ _ _ h => h) (Or.inl ⟨by rfl, ?_⟩) (fun _ => rfl) (by assumption) ?_
        rotate_left
        · intro w hSw; (try dsimp only at hSw); go_simp; try with_reducible rfl
        try simp only [Act.put, List.setIfInBounds_toArray, List.set_cons_zero, List.set_cons_succ]
        refine wpAnyHF_one (i := 11) (o := ⟨some 33, _, _, _, _, _⟩) (by kernel_rfl) rfl (by rfl) (fun KK hKK => ?_)
        go_simp
        refine ⟨trivial, ?_⟩
        refine (callsIn_wide.2 (lacks_c b2 off2 cap2 m _ _ _ hm o1 m24 h0m (HQW.out.below zc hbWw5))).mono ?_
        rintro e w6 ⟨rfl, hbw6⟩
        have hbWw6 : Below W.heap.size W w6 := bstep hbWw5 hbw6
        obtain ⟨hcq, hfq⟩ := bcell hbWw6
        have hszw6 := hbWw6.size
        have bR6 := bxd_below bR1 hbWw6 zr
        have kR6 := bR6.cell
        have fR6 := bR6.frozen
        have hK6 : w6.heap[D]? = some (.deferred (some [])) := (hbWw6.block D hDW).trans hK
        have hbut : But [w.heap.size + 1] (w.heap.size + 3) W w6 := But.of_below hbWw6 (by omega)
        have qw60 := fun o => hcq (w.heap.size) o (by omega)
        have qw61 := fun o => hcq (b) o (by omega)
        have qw62 := fun o => hcq (b2) o (by omega)
        clear hcq hfq hbw6
        (try gi_wp2_with fail)
        refine hKK _ _ (by first | (go_keep; done) | ((repeat' apply And.intro) <;> go_simp)) (fun hHeld => ?_)
        clear hKK KK
        try simp only [Act.put, List.setIfInBounds_toArray, List.set_cons_zero, List.set_cons_succ]
        refine wpAnyHF_take (i := 12) (oi := ⟨some 34, _, _, _, _, _⟩) (v := ?_) rfl rfl (by kernel_rfl) (by kernel_rfl) (by kernel_rfl) (fun _ _ _ h => h) (Or.inl ⟨by rfl, ?_⟩) (fun _ => rfl) (by assumption) ?_
        rotate_left
        · intro w hSw; (try dsimp only at hSw); go_simp; try with_reducible rfl
        try simp only [Act.put, List.setIfInBounds_toArray, List.set_cons_zero, List.set_cons_succ]
        refine wpAnyHF_take (i := 13) (oi := ⟨some 35, _, _, _, _, _⟩) (v := ?_) rfl rfl (by kernel_rfl) (by kernel_rfl) (by kernel_rfl) (fun _ _ _ h => h) (Or.inl ⟨by rfl, ?_⟩) (fun _ => rfl) (by assumption) ?_
        rotate_left
        · intro w hSw; (try dsimp only at hSw); go_simp; try with_reducible rfl
        try simp only [Act.put, List.setIfInBounds_toArray, List.set_cons_zero, List.set_cons_succ]
        refine wpAnyHF_one (i := 14) (o := ⟨none, _, _, _, _, _⟩) (by kernel_rfl) rfl (by rfl) (fun KK hKK => ?_)
        go_simp
        (try gi_wp2_with fail)
        refine hKK _ _ (by first | (go_keep; done) | ((repeat' apply And.intro) <;> go_simp)) (fun hHeld => ?_)
        clear hKK KK
        try simp only [Act.put, List.setIfInBounds_toArray, List.set_cons_zero, List.set_cons_succ]
        refine wpAnyHF_done (by kernel_rfl) (NoPanic.normal ?_) _
      · have hK' := (KeepsOthers.setCell w6 ⟨w.heap.size + 1, 0, none⟩ (.bool true)).same D _ hK6 rfl
        gi_wp2
        refine ⟨by simp, .inl ⟨_, _, rfl, run_takeDeferred hK', ?_⟩⟩
        have hc5 := cell_kept (bR6.set (.bool true)).cell (grownBy_putObj' _ D (.deferred none)) (fun r e => by cases e; exact ⟨_, hK', rfl⟩)
        refine ⟨.bool true, ?_, by rw [HN.out, HV.out, HU.out]; rfl, ?_⟩
        · simp [results, Tryz.f207, go_sem, hc5]
        · exact (hBW0.trans (((hB1.trans hbut).below (by omega) (by simp)).setCell (p := ⟨w.heap.size + 1, 0, none⟩) (by simp) _)).trans (belowK_b (w := w) (Nat.le_refl _) _ D _ _ (by omega) hK' rfl rfl)
      · have hK' := (KeepsOthers.setCell w6 ⟨w.heap.size + 1, 0, none⟩ (.bool false)).same D _ hK6 rfl
        gi_wp2
        refine ⟨by simp, .inl ⟨_, _, rfl, run_takeDeferred hK', ?_⟩⟩
        have hc5 := cell_kept (bR6.set (.bool false)).cell (grownBy_putObj' _ D (.deferred none)) (fun r e => by cases e; exact ⟨_, hK', rfl⟩)
        refine ⟨.bool false, ?_, by rw [HN.out, HV.out, HU.out]; rfl, ?_⟩
        · simp [results, Tryz.f207, go_sem, hc5]
        · exact (hBW0.trans (((hB1.trans hbut).below (by omega) (by simp)).setCell (p := ⟨w.heap.size + 1, 0, none⟩) (by simp) _)).trans (belowK_b (w := w) (Nat.le_refl _) _ D _ _ (by omega) hK' rfl rfl)
  case stop =>
    rintro D c pre W hD hpre ⟨⟨⟨rfl, hin⟩, bR1⟩, hB1⟩ hK
    gi_wp2
    refine ⟨by simp, .inl ⟨_, _, rfl, run_takeDeferred hK, ?_⟩⟩
    have hc5 := cell_kept bR1.cell (grownBy_putObj' _ D (.deferred none)) (fun r e => by cases e; exact ⟨_, hK, rfl⟩)
    refine ⟨.bool true, ?_, by rw [apE_mono hpre hin]; rfl, ?_⟩
    · simp [results, Tryz.f207, go_sem, hc5]
    · exact (hBW0.trans (hB1.below (by omega) (by simp))).trans (belowK_b (w := w) (Nat.le_refl _) _ D _ _ (by omega) hK rfl rfl)

theorem touches_c (b off cap b2 off2 cap2 : Nat) (l m : List Pt) (w : World) (hl : okL l = true) (h24 : l.length ≤ 24) (h0l : 0 < l.length) (hm : okL m = true) (m24 : m.length ≤ 24) (h0m : 0 < m.length) (hc : Row w b off l) (hcm : Row w b2 off2 m) :
    Calls Tryz.prog 207 #[.slice (some ⟨b, off, none⟩) l.length cap, .slice (some ⟨b2, off2, none⟩) m.length cap2] w (Ret w (.bool (touL l m))) := by
  refine (callsIn_wide.1 (touches_in 8 (Nat.le_refl _) b off cap b2 off2 cap2 l m hl h24 h0l hm m24 h0m w hc hcm)).mono ?_
  rintro e W' ⟨rfl, hb⟩
  exact ⟨by rw [apL_eq]; rfl, hb⟩

end Go.Proofs.YtfgajejhjbfhjaaGreat.Po
end

section
namespace Go.Proofs.YtfgajejhjbfhjaaGreat.Po
open Go.RowKit Go.Shelf
set_option linter.unusedSimpArgs false
set_option linter.unusedVariables false
attribute [local go_sem] Oper.semAt_some

/-- A corner of m is outside of l. -/
def lackL (l m : List Pt) : Bool := (List.range m.length).any fun j => decide (siL (gp m j) l < 0)
def IdxPost (w : World) (x : Bool) (e : Ending) (w' : World) : Prop := ∃ r : Int, e = .returned (.int .i64 r) ∧ decide (0 ≤ r) = x ∧ Below w.heap.size w w'

set_option maxRecDepth 100000 in
set_option maxHeartbeats 3200000 in
theorem index_c (b off cap b2 off2 cap2 : Nat) (l m : List Pt) (w : World) (hl : okL l = true) (h24 : l.length ≤ 24) (h0l : 0 < l.length) (hm : okL m = true) (m24 : m.length ≤ 24) (h0m : 0 < m.length) (hc : Row w b off l) (hcm : Row w b2 off2 m) :
    Calls Tryz.prog 213 #[.slice (some ⟨b2, off2, none⟩) m.length cap2, .func (.func 169) #[.slice (some ⟨b, off, none⟩) l.length cap] #[]] w (IdxPost w (lackL l m)) := by
  have hbl := hc.lt h0l
  have hbm := hcm.lt h0m
  go_enter Tryz.func213, Tryz.ntmps213
  go_wp2
  go_loopw [8] (fun i wr => ∃ k : Nat, i = (.int .i64 k) ∧ k ≤ m.length ∧ (∀ j, j < k → 0 ≤ siL (gp m j) l) ∧ Below w.heap.size w wr) (fun i _ => m.length - (intOf i).toNat)
  case atStart => exact ⟨0, rfl, by omega, fun i hi => by omega, Below.refl _ _⟩
  case round =>
    obtain ⟨k, rfl, hk, hall, hbel⟩ := hrel
    have HA := Lib.hid hall
    clear hall
    by_cases hlt : k < m.length
    · have hrr := hcm.below hbm hbel
      have hpr := hc.below hbl hbel
      obtain ⟨c1, c2⟩ := hrr k hlt
      have HR := Lib.hid hc
      have HQ := Lib.hid hcm
      have HP := Lib.hid hpr
      clear hc hcm hrr hpr
      have o1 := okL_gp hm k
      unfold okP at o1
      cases hv : decide (siL (gp m k) l < 0)
      · have HV := Lib.hid hv
        go_wp2_with fail
        refine Calls.mono (lacks_c b off cap l _ _ _ hl o1 h24 h0l HP.out) ?_
        rintro e w1 ⟨rfl, hb1⟩
        have hB1 : Below w.heap.size w w1 := (by repeat (first | with_reducible exact Below.refl _ _ | with_reducible assumption | with_reducible refine Below.setCell ?_ (by first | omega | (simp <;> omega)) _ | with_reducible refine balloc ?_ _ | with_reducible refine Below.drew ?_ | with_reducible refine bstep ?_ (by with_reducible assumption)))
        go_wp2
        go_roundw
        case rel =>
          refine ⟨k + 1, by go_num, by omega, fun i hi => ?_, hB1⟩
          by_cases hik : i = k
          · subst hik; exact Int.not_lt.1 (of_decide_eq_false HV.out)
          · exact HA.out i (by omega)
        case measure => simp [intOf]; omega
      · have HV := Lib.hid hv
        go_wp2_with fail
        refine Calls.mono (lacks_c b off cap l _ _ _ hl o1 h24 h0l HP.out) ?_
        rintro e w1 ⟨rfl, hb1⟩
        have hB1 : Below w.heap.size w w1 := (by repeat (first | with_reducible exact Below.refl _ _ | with_reducible assumption | with_reducible refine Below.setCell ?_ (by first | omega | (simp <;> omega)) _ | with_reducible refine balloc ?_ _ | with_reducible refine Below.drew ?_ | with_reducible refine bstep ?_ (by with_reducible assumption)))
        go_wp2
        go_ret
        refine ⟨k, rfl, ?_, hB1⟩
        rw [decide_eq_true (by omega)]
        unfold lackL
        exact (List.any_eq_true.2 ⟨k, List.mem_range.2 hlt, HV.out⟩).symm
    · obtain rfl : k = m.length := by omega
      go_wp2
      go_ret
      refine ⟨-1, rfl, ?_, hbel⟩
      have : lackL l m = false := by
        unfold lackL
        rw [List.any_eq_false]
        intro j hj
        simpa using HA.out j (List.mem_range.1 hj)
      rw [this]
      rfl

set_option maxHeartbeats 800000 in
theorem contains_c (b off cap b2 off2 cap2 : Nat) (l m : List Pt) (w : World) (hl : okL l = true) (h24 : l.length ≤ 24) (h0l : 0 < l.length) (hm : okL m = true) (m24 : m.length ≤ 24) (h0m : 0 < m.length) (hc : Row w b off l) (hcm : Row w b2 off2 m) :
    Calls Tryz.prog 210 #[.slice (some ⟨b2, off2, none⟩) m.length cap2, .func (.func 169) #[.slice (some ⟨b, off, none⟩) l.length cap] #[]] w (Ret w (.bool (lackL l m))) := by
  go_enter Tryz.func210, Tryz.ntmps210
  go_wp2_with fail
  refine Calls.mono (index_c b off cap b2 off2 cap2 l m _ hl h24 h0l hm m24 h0m hc hcm) ?_
  rintro e w1 ⟨r, rfl, hr, hb1⟩
  have HR := Lib.hid hr
  clear hr
  go_wp2
  all_goals
    go_ret
    refine ret_bv ?_ (by repeat (first | with_reducible exact Below.refl _ _ | with_reducible assumption | with_reducible refine Below.setCell ?_ (by first | omega | (simp <;> omega)) _ | with_reducible refine balloc ?_ _ | with_reducible refine Below.drew ?_ | with_reducible refine bstep ?_ (by with_reducible assumption)))
    rw [← HR.out]

def hoE (l : List Pt) (es : List Ed) : Bool := es.all fun e => hwL l e.1.1 e.1.2
theorem hoE_snoc (l : List Pt) (es : List Ed) (x : Ed) : hoE l (es ++ [x]) = (hoE l es && hwL l x.1.1 x.1.2) := by simp [hoE]
theorem hoE_mono {l : List Pt} {es fs : List Ed} (h : es <+: fs) (ho : hoE l es = false) : hoE l fs = false := by
  obtain ⟨gs, rfl⟩ := h
  unfold hoE at *
  rw [List.all_append, ho]
  rfl
def hoL (l m : List Pt) : Bool := !lackL l m && (List.range m.length).all fun j => hwL l (gp m j) (nx m j)
theorem hoL_eq (l m : List Pt) (hm : okL m = true) : (!lackL l m && hoE l (eds m hm)) = hoL l m := by
  unfold hoE hoL eds upto
  rw [List.all_map]
  rfl

set_option maxRecDepth 100000 in
set_option maxHeartbeats 8000000 in
theorem holds_in (n : Nat) (hn : 8 ≤ n) (b off cap b2 off2 cap2 : Nat) (l m : List Pt) (hl : okL l = true) (h24 : l.length ≤ 24) (h0l : 0 < l.length) (hm : okL m = true) (m24 : m.length ≤ 24) (h0m : 0 < m.length) (w : World) (hc : Row w b off l) (hcm : Row w b2 off2 m) :
    CallsIn Fence.wide n Tryz.prog 206 #[.slice (some ⟨b, off, none⟩) l.length cap, .slice (some ⟨b2, off2, none⟩) m.length cap2] w fun e W' => e = .returned (.bool (!lackL l m && hoE l (eds m hm))) ∧ Below w.heap.size w W' := by
  have h1 : 1 ≤ n := by omega
  have hbl := hc.lt h0l
  have hbm := hcm.lt h0m
  refine callsIn_of_wp_marks Tryz.func206 rfl trivial ?_ rfl
  simp only [Tryz.ntmps206, List.size_toArray, List.length_cons, List.length_nil, Nat.reduceAdd, Nat.reduceSub, Array.replicate_succ, Array.replicate_zero, List.push_toArray, List.append_toArray, List.nil_append, List.cons_append]
  gi_wp2_with fail
  refine ⟨trivial, ?_⟩
  obtain ⟨Wp, hWp⟩ : ∃ Wp, ((w.alloc (.cells #[.slice (some ⟨b, off, none⟩) l.length cap] 158)).alloc (.cells #[.bool false] 4)) = Wp := ⟨_, rfl⟩
  have bP : Boxed Wp (w.heap.size) 158 (.slice (some ⟨b, off, none⟩) l.length cap) := by
    have := (Boxed.new w 158 (.slice (some ⟨b, off, none⟩) l.length cap)).alloc (.cells #[.bool false] 4)
    rw [← hWp]; exact this
  have bR : Boxed Wp (w.heap.size + 1) 4 (.bool false) := by
    have := Boxed.new (w.alloc (.cells #[.slice (some ⟨b, off, none⟩) l.length cap] 158)) 4 (.bool false)
    rw [World.size_alloc] at this; rw [← hWp]; exact this
  have hBWp : Below w.heap.size w Wp := by rw [← hWp]; exact (((Below.refl _ w).alloc (Nat.le_refl _) _).alloc (by simp <;> omega) _)
  have hszWp : Wp.heap.size = w.heap.size + 2 := by rw [← hWp]; simp
  rw [hWp]
  clear hWp
  have hcp := hc.below hbl hBWp
  have hcq := hcm.below hbm hBWp
  refine (callsIn_wide.2 (contains_c b off cap b2 off2 cap2 l m _ hl h24 h0l hm m24 h0m hcp hcq)).mono ?_
  rintro e w1 ⟨rfl, hb1⟩
  have hs1 := hb1.size
  have HCP := Lib.hid (hcp.below (by omega) hb1)
  have HCQ := Lib.hid (hcq.below (by omega) hb1)
  have HC := Lib.hid hc
  have HQ := Lib.hid hcm
  clear hcp hcq hc hcm
  cases hk : lackL l m
  · have HK := Lib.hid hk
    have hB1 : Below w.heap.size w w1 := bstep hBWp hb1
    gi_wp2_with (refine ⟨trivial, ?_⟩; gi_at_call 170; refine (edges_in (n - 1) _ _ _ _).mono ?_; rintro e w' ⟨rfl, rfl⟩)
    obtain ⟨W0, hW0⟩ : ∃ W0, (w1.alloc (.cells #[.slice (some ⟨b2, off2, none⟩) m.length cap2] 158)) = W0 := ⟨_, rfl⟩
    have bE : Boxed W0 (w1.heap.size) 158 (.slice (some ⟨b2, off2, none⟩) m.length cap2) := by
      have := Boxed.new w1 158 (.slice (some ⟨b2, off2, none⟩) m.length cap2)
      rw [← hW0]; exact this
    have hBW0 : Below w1.heap.size w1 W0 := by rw [← hW0]; exact ((Below.refl _ w1).alloc (Nat.le_refl _) _)
    have hszW0 : W0.heap.size = w1.heap.size + 1 := by rw [← hW0]; simp
    rw [hW0]
    clear hW0
    have hbp0 : Below Wp.heap.size Wp W0 := bstep hb1 hBW0
    have hB0 : Below w.heap.size w W0 := bstep hBWp hbp0
    have bP0 := bxd_below bP hbp0 (by omega)
    have bR0 := bxd_below bR hbp0 (by omega)
    have hp0 := HCP.out.below (b := b) (by omega) hBW0
    have hr0 := HCQ.out.below (b := b2) (by omega) hBW0
    refine wpIn_rangeFunc_ownH rfl h1 (gf := 180) (lb := #[.pointer (some ⟨w1.heap.size, 0, none⟩)]) rfl trivial (enters_of Tryz.func180 (by kernel_rfl) rfl)
      (edges_stops (n - 1) (by omega) (w1.heap.size) (w1.heap.size + 1) b2 off2 cap2 m hm m24 h0m (by omega) [w.heap.size + 1] (by simp only [List.mem_cons, List.not_mem_nil, or_false]; omega) (by simp only [List.mem_cons, List.not_mem_nil, or_false]; omega) W0 bE.cell (by omega) (by omega) hr0) but_t (but_b (by omega)) (Below.refl _ _) (fun _ => rfl)
      (fun pre W => (hoE l pre = true ∧ Boxed W (w.heap.size + 1) 4 (.bool false)) ∧ But [w.heap.size + 1] (w1.heap.size + 1) W0 W)
      (fun c pre W => ((c = .ret ∧ hoE l pre = false) ∧ Boxed W (w.heap.size + 1) 4 (.bool false)) ∧ But [w.heap.size + 1] (w1.heap.size + 1) W0 W)
      (OwnFrom.and (OwnFrom.and (ownFrom_pure _ _) (Own.from (boxed_own _ _ (fun _ => Value.bool false)) _)) (ownFrom_but (by omega) (by omega)))
      (fun c => OwnFrom.and (OwnFrom.and (ownFrom_pure _ _) (Own.from (boxed_own _ _ (fun _ => Value.bool false)) _)) (ownFrom_but (by omega) (by omega)))
      ⟨⟨rfl, bR0⟩, But.refl _ _ _⟩
      (fun x a' W => ∃ Bx By, Box2 W Bx 23 x.1.1 ∧ Box2 W By 23 x.1.2 ∧ (w1.heap.size + 1 ≤ Bx ∧ w1.heap.size + 1 ≤ By) ∧ a' = { tmps := #[.slice (some ⟨b, off, none⟩) l.length cap, .slice (some ⟨b2, off2, none⟩) m.length cap2, .pointer (some ⟨w.heap.size, 0, none⟩), undef, .pointer (some ⟨w.heap.size + 1, 0, none⟩), .pointer (some ⟨Bx, 0, none⟩), .pointer (some ⟨By, 0, none⟩), .slice (some ⟨b2, off2, none⟩) m.length cap2, .slice (some ⟨b, off, none⟩) l.length cap, .func (.func 169) #[.slice (some ⟨b, off, none⟩) l.length cap] #[], .bool false, .slice (some ⟨b2, off2, none⟩) m.length cap2, .func (.func 180) #[] #[.pointer (some ⟨w1.heap.size, 0, none⟩)], .agg #[(.int .i64 (x.1.1.1)), (.int .i64 (x.1.1.2))], .agg #[(.int .i64 (x.1.2.1)), (.int .i64 (x.1.2.2))], undef, undef, undef, undef, undef], defers := [] })
      (fun x a' _ X Y row hs hg hr => by
        obtain ⟨Bx, By, e1, e2, e4, e3⟩ := hs
        exact ⟨Bx, By, box2_own Bx _ (fun (_ : Unit) => x.1.1) () X Y row e1 hg (fun r e => (hr r e).2), box2_own By _ (fun (_ : Unit) => x.1.2) () X Y row e2 hg (fun r e => (hr r e).2), e4, e3⟩)
      ?assign ?body ?done ?stop
    case assign =>
      rintro ll pre x W K ⟨⟨hon, bR1⟩, hB2⟩ hK
      have hs1 := hB2.size
      unfold encE
      gi_wp2
      obtain ⟨t1, t2, t3, t4⟩ := two_boxes W 23 x.1.1 x.1.2 [w.heap.size + 1] (w1.heap.size + 1) W0.heap.size (by omega)
      exact hK _ _ t1 t2 ⟨⟨hon, (bR1.alloc _).alloc _⟩, hB2.trans t2⟩ ⟨_, _, t3, t4, by omega, rfl⟩
    case body =>
      rintro ll pre ⟨⟨⟨a1, a2⟩, d1, d2⟩, ha, hd⟩ a' W hll ⟨rr, hr⟩ ⟨⟨hon, bR1⟩, hB2⟩ ⟨Bx, By, bx, by', ⟨hBx, hBy⟩, rfl⟩ hlt
      have hso := hoE_snoc l pre ⟨((a1, a2), d1, d2), ha, hd⟩
      have hxa : ok a1 a2 := ha
      have hxb : ok d1 d2 := hd
      have hsW := hB2.size
      have bP1 := hB2.boxed (by omega) (by simp only [List.mem_cons, List.not_mem_nil, or_false]; omega) bP0
      have kp := bP1.cell
      have k2 := bx.c0
      have k3 := bx.c1
      have k4 := by'.c0
      have k5 := by'.c1
      dsimp only at k2 k3 k4 k5
      have HO := Lib.hid hso
      have HN := Lib.hid hon
      have HRW := Lib.hid (hB2.row (b := b) (by omega) (by simp only [List.mem_cons, List.not_mem_nil, or_false]; omega) hp0)
      clear hso hon
      have h1' : 1 ≤ n - 1 - 1 := by omega
      have zr : w.heap.size + 1 < W.heap.size := by omega
      gi_wp2_with fail
      refine ⟨trivial, ?_⟩
      refine (CallsIn.inRound ll (callsIn_wide.2 (holdsWay_c b off cap l _ _ _ _ _ hl hxa hxb h24 h0l HRW.out))).mono ?_
      rintro e w2 ⟨rfl, hb2⟩
      have hs2 := hb2.size
      have bR2 := bxd_below bR1 hb2 zr
      have kR := bR2.cell
      have fR := bR2.frozen
      have hbut : But [w.heap.size + 1] (w1.heap.size + 1) W w2 := But.of_below hb2 (by omega)
      have hkf := (keeps_of_below hb2).from W0.heap.size
      clear hb2
      cases hv : hwL l (a1, a2) (d1, d2)
      · have HV := Lib.hid hv
        gi_wp2
        exact ⟨hkf.trans ((KeepsOthers.setCell _ _ _).from _), ⟨⟨rfl, by rw [HO.out, HV.out]; simp⟩, bR2.set _⟩, (hB2.trans hbut).set (p := ⟨w.heap.size + 1, 0, none⟩) (by simp) _⟩
      · have HV := Lib.hid hv
        gi_wp2
        exact ⟨hkf, hbut, ⟨by rw [HO.out, HN.out, HV.out]; rfl, bR2⟩, hB2.trans hbut⟩
    case done =>
      rintro D ys W hD rfl ⟨⟨hon, bR1⟩, hB2⟩ hK
      have HN := Lib.hid hon
      clear hon
      have kR := bR1.cell
      have fR := bR1.frozen
      gi_wp2
      have hK' := (KeepsOthers.setCell W ⟨w.heap.size + 1, 0, none⟩ (.bool true)).same D _ hK rfl
      refine ⟨by simp, .inl ⟨_, _, rfl, run_takeDeferred hK', ?_⟩⟩
      have hc5 := cell_kept (bR1.set (.bool true)).cell (grownBy_putObj' _ D (.deferred none)) (fun r e => by cases e; exact ⟨_, hK', rfl⟩)
      refine ⟨.bool true, ?_, by rw [HN.out, HK.out]; rfl, ?_⟩
      · simp [results, Tryz.f206, go_sem, hc5]
      · exact (hB0.trans ((hB2.below (by omega) (by simp)).setCell (p := ⟨w.heap.size + 1, 0, none⟩) (by simp) _)).trans (belowK_b (w := w) (Nat.le_refl _) _ D _ _ (by omega) hK' rfl rfl)
    case stop =>
      rintro D c pre W hD hpre ⟨⟨⟨rfl, hin⟩, bR1⟩, hB2⟩ hK
      gi_wp2
      refine ⟨by simp, .inl ⟨_, _, rfl, run_takeDeferred hK, ?_⟩⟩
      have hc5 := cell_kept bR1.cell (grownBy_putObj' _ D (.deferred none)) (fun r e => by cases e; exact ⟨_, hK, rfl⟩)
      refine ⟨.bool false, ?_, by rw [hoE_mono hpre hin]; simp, ?_⟩
      · simp [results, Tryz.f206, go_sem, hc5]
      · exact (hB0.trans (hB2.below (by omega) (by simp))).trans (belowK_b (w := w) (Nat.le_refl _) _ D _ _ (by omega) hK rfl rfl)
  · have HK := Lib.hid hk
    have bR1 := bxd_below bR hb1 (by omega)
    have kR := bR1.cell
    have fR := bR1.frozen
    have hB1 : Below w.heap.size w w1 := bstep hBWp hb1
    gi_wp2
    have hc5 := (bR1.set (.bool false)).cell
    refine ⟨.bool false, ?_, by rw [HK.out]; rfl, hB1.setCell (p := ⟨w.heap.size + 1, 0, none⟩) (by simp) _⟩
    simp [results, Tryz.f206, go_sem, hc5]

theorem holds_c (b off cap b2 off2 cap2 : Nat) (l m : List Pt) (w : World) (hl : okL l = true) (h24 : l.length ≤ 24) (h0l : 0 < l.length) (hm : okL m = true) (m24 : m.length ≤ 24) (h0m : 0 < m.length) (hc : Row w b off l) (hcm : Row w b2 off2 m) :
    Calls Tryz.prog 206 #[.slice (some ⟨b, off, none⟩) l.length cap, .slice (some ⟨b2, off2, none⟩) m.length cap2] w (Ret w (.bool (hoL l m))) := by
  refine (callsIn_wide.1 (holds_in 8 (Nat.le_refl _) b off cap b2 off2 cap2 l m hl h24 h0l hm m24 h0m w hc hcm)).mono ?_
  rintro e W' ⟨rfl, hb⟩
  exact ⟨by rw [hoL_eq], hb⟩

end Go.Proofs.YtfgajejhjbfhjaaGreat.Po
end
