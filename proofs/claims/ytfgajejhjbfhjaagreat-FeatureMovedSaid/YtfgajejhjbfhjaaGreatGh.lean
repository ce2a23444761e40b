/- PolH: where a place lies of a polygon. -/
import Derived.Test.YtfgajejhjbfhjaaGreatPolF
import Derived.Test.YtfgajejhjbfhjaaGreatGf
import Derived.Test.YtfgajejhjbfhjaaGreatGg
import Derived.BigRegion
import Derived.Deep.RegionWith
import Derived.Test.YtfgajejhjbfhjaaGreatRows
import Derived.RangeFuncNested
import Derived.RangeFuncBound
import Derived.RangeFuncCalls
import Derived.RangeFuncLeaves
import Derived.Shelf.Abstract
import Derived.Shelf.RegionOpen
import Derived.WalkKit
import Derived.OwnWalkIn
import Derived.TacticsInMore
import Derived.LoopNIn
import Derived.LoopIn
import Derived.Outline
import Derived.IntWalk
import Derived.Lib.Hide
section
namespace Go.Proofs.YtfgajejhjbfhjaaGreat.Po
open Go.RowKit Go.Shelf
set_option linter.unusedSimpArgs false
set_option linter.unusedVariables false
attribute [local go_sem] Oper.semAt_some

theorem bxd_below {W W' : World} {B m : Nat} {t : TypeId} {v : Value} (h : Boxed W B t v) (hb : Below m W W') (hm : B < m) : Boxed W' B t v := (hb.block B hm).trans h
theorem But.boxed {M : List Nat} {m : Nat} {w W : World} {B : Nat} {t : TypeId} {v : Value} (h : But M m w W) (hb : B < m) (hn : B ∉ M) (hr : Boxed w B t v) : Boxed W B t v := (h.block B hb hn).trans hr
theorem But.box2 {M : List Nat} {m : Nat} {w W : World} {B : Nat} {t : TypeId} {p : Pt} (h : But M m w W) (hb : B < m) (hn : B ∉ M) (hr : Box2 w B t p) : Box2 W B t p := (h.block B hb hn).trans hr
theorem bxd_drew {W : World} {B : Nat} {t : TypeId} {v : Value} (h : Boxed W B t v) : Boxed W.drew B t v := h
def onE (q : Pt) (es : List Ed) : Bool := es.any fun e => onP q e.1.1 e.1.2
def parE (q : Pt) (es : List Ed) : Bool := es.foldl (fun b e => b != paE q e.1.1 e.1.2) false
def siE (q : Pt) (es : List Ed) : Int := if onE q es = true then 0 else if parE q es = true then 1 else -1
theorem onE_snoc (q : Pt) (es : List Ed) (x : Ed) : onE q (es ++ [x]) = (onE q es || onP q x.1.1 x.1.2) := by simp [onE]
theorem parE_snoc (q : Pt) (es : List Ed) (x : Ed) : parE q (es ++ [x]) = (parE q es != paE q x.1.1 x.1.2) := by simp [parE]
theorem onE_mono {q : Pt} {es fs : List Ed} (h : es <+: fs) (ho : onE q es = true) : onE q fs = true := by
  obtain ⟨gs, rfl⟩ := h
  unfold onE at *
  rw [List.any_append, ho]
  rfl
def sgB (b : Bool) : Int := if b = true then 1 else -1
theorem sgB_neg (b : Bool) : -sgB b = sgB (!b) := by cases b <;> rfl

set_option maxRecDepth 100000 in
set_option maxHeartbeats 4000000 in
theorem side_in (n : Nat) (hn : 6 ≤ n) (b off cap : Nat) (l : List Pt) (q1 q2 : Int) (hl : okL l = true) (hq : ok q1 q2) (h24 : l.length ≤ 24) (h0l : 0 < l.length) (w : World) (hc : Row w b off l) :
    CallsIn Fence.wide n Tryz.prog 179 #[.slice (some ⟨b, off, none⟩) l.length cap, (.agg #[.int .i64 q1, .int .i64 q2])] w fun e W' => e = .returned (.int .i64 (siE (q1, q2) (eds l hl))) ∧ Below w.heap.size w W' := by
  have h1 : 1 ≤ n := by omega
  have hbl := hc.lt h0l
  refine callsIn_of_wp_marks Tryz.func179 rfl trivial ?_ rfl
  simp only [Tryz.ntmps179, List.size_toArray, List.length_cons, List.length_nil, Nat.reduceAdd, Nat.reduceSub, Array.replicate_succ, Array.replicate_zero, List.push_toArray, List.append_toArray, List.nil_append, List.cons_append]
  gi_wp2_with (refine ⟨trivial, ?_⟩; gi_at_call 170; refine (edges_in (n - 1) _ _ _ _).mono ?_; rintro e w' ⟨rfl, rfl⟩)
  obtain ⟨W0, hW0⟩ : ∃ W0, (((w.alloc (.cells #[(.int .i64 q1), (.int .i64 q2)] 23)).alloc (.cells #[(.int .i64 0)] 3)).alloc (.cells #[(.int .i64 (-1))] 3)).alloc (.cells #[.slice (some ⟨b, off, none⟩) l.length cap] 158) = W0 := ⟨_, rfl⟩
  have bQ : Box2 W0 w.heap.size 23 (q1, q2) := by rw [← hW0]; exact ((((Box2.new w 23 (q1, q2)).alloc _).alloc _).alloc _)
  have bR : Boxed W0 (w.heap.size + 1) 3 (.int .i64 0) := by
    have := ((Boxed.new (w.alloc (.cells #[(.int .i64 q1), (.int .i64 q2)] 23)) 3 (.int .i64 0)).alloc (.cells #[(.int .i64 (-1))] 3)).alloc (.cells #[.slice (some ⟨b, off, none⟩) l.length cap] 158)
    rw [World.size_alloc] at this; rw [← hW0]; exact this
  have bS : Boxed W0 (w.heap.size + 1 + 1) 3 (.int .i64 (-1)) := by
    have := (Boxed.new ((w.alloc (.cells #[(.int .i64 q1), (.int .i64 q2)] 23)).alloc (.cells #[(.int .i64 0)] 3)) 3 (.int .i64 (-1))).alloc (.cells #[.slice (some ⟨b, off, none⟩) l.length cap] 158)
    rw [World.size_alloc, World.size_alloc] at this; rw [← hW0]; exact this
  have bP : Boxed W0 (w.heap.size + 1 + 1 + 1) 158 (.slice (some ⟨b, off, none⟩) l.length cap) := by
    have := Boxed.new (((w.alloc (.cells #[(.int .i64 q1), (.int .i64 q2)] 23)).alloc (.cells #[(.int .i64 0)] 3)).alloc (.cells #[(.int .i64 (-1))] 3)) 158 (.slice (some ⟨b, off, none⟩) l.length cap)
    rw [World.size_alloc, World.size_alloc, World.size_alloc] at this; rw [← hW0]; exact this
  have hB0 : Below w.heap.size w W0 := by rw [← hW0]; exact ((((Below.refl _ w).alloc (Nat.le_refl _) _).alloc (by simp) _).alloc (by simp; omega) _).alloc (by simp; omega) _
  have hsz : W0.heap.size = w.heap.size + 4 := by rw [← hW0]; simp
  rw [hW0]
  clear hW0
  have hr0 := hc.below hbl hB0
  refine wpIn_rangeFunc_ownH rfl h1 (gf := 180) (lb := #[.pointer (some ⟨w.heap.size + 1 + 1 + 1, 0, none⟩)]) rfl trivial (enters_of Tryz.func180 (by kernel_rfl) rfl)
    (edges_stops (n - 1) (by omega) (w.heap.size + 1 + 1 + 1) (w.heap.size + 4) b off cap l hl h24 h0l (by omega) [w.heap.size + 1, w.heap.size + 1 + 1] (by simp only [List.mem_cons, List.not_mem_nil, or_false]; omega) (by simp only [List.mem_cons, List.not_mem_nil, or_false]; omega) W0 bP.cell (by omega) (by omega) hr0) but_t (but_b (by omega)) (Below.refl _ _) (fun _ => rfl)
    (fun pre W => ((onE (q1, q2) pre = false ∧ Boxed W (w.heap.size + 1 + 1) 3 (.int .i64 (sgB (parE (q1, q2) pre)))) ∧ Boxed W (w.heap.size + 1) 3 (.int .i64 0)) ∧ But [w.heap.size + 1, w.heap.size + 1 + 1] (w.heap.size + 4) W0 W)
    (fun c pre W => ((c = .ret ∧ onE (q1, q2) pre = true) ∧ Boxed W (w.heap.size + 1) 3 (.int .i64 0)) ∧ But [w.heap.size + 1, w.heap.size + 1 + 1] (w.heap.size + 4) W0 W)
    (OwnFrom.and (OwnFrom.and (OwnFrom.and (ownFrom_pure _ _) (Own.from (boxed_own _ _ _) _)) (Own.from (boxed_own _ _ (fun _ => (.int .i64 0))) _)) (ownFrom_but (by omega) (by omega)))
    (fun c => OwnFrom.and (OwnFrom.and (ownFrom_pure _ _) (Own.from (boxed_own _ _ _) _)) (ownFrom_but (by omega) (by omega)))
    ⟨⟨⟨rfl, bS⟩, bR⟩, But.refl _ _ _⟩
    (fun x a' W => ∃ Bx By, Box2 W Bx 23 x.1.1 ∧ Box2 W By 23 x.1.2 ∧ (w.heap.size + 4 ≤ Bx ∧ w.heap.size + 4 ≤ By) ∧ a' = { tmps := #[.slice (some ⟨b, off, none⟩) l.length cap, (.agg #[.int .i64 q1, .int .i64 q2]), undef, .pointer (some ⟨w.heap.size, 0, none⟩), .pointer (some ⟨w.heap.size + 1, 0, none⟩), .pointer (some ⟨w.heap.size + 1 + 1, 0, none⟩), .pointer (some ⟨Bx, 0, none⟩), .pointer (some ⟨By, 0, none⟩), .slice (some ⟨b, off, none⟩) l.length cap, .func (.func 180) #[] #[.pointer (some ⟨w.heap.size + 1 + 1 + 1, 0, none⟩)], .agg #[(.int .i64 (x.1.1.1)), (.int .i64 (x.1.1.2))], .agg #[(.int .i64 (x.1.2.1)), (.int .i64 (x.1.2.2))], undef, undef, undef, undef, undef, undef, undef, undef, undef, undef, undef], defers := [] })
    (fun x a' _ X Y row hs hg hr => by
      obtain ⟨Bx, By, e1, e2, e4, e3⟩ := hs
      exact ⟨Bx, By, box2_own Bx _ (fun (_ : Unit) => x.1.1) () X Y row e1 hg (fun r e => (hr r e).2), box2_own By _ (fun (_ : Unit) => x.1.2) () X Y row e2 hg (fun r e => (hr r e).2), e4, e3⟩)
    ?assign ?body ?done ?stop
  case assign =>
    rintro ll pre x W K ⟨⟨⟨hon, bS1⟩, bR1⟩, hB1⟩ hK
    have hs1 := hB1.size
    unfold encE
    gi_wp2
    obtain ⟨t1, t2, t3, t4⟩ := two_boxes W 23 x.1.1 x.1.2 [w.heap.size + 1, w.heap.size + 1 + 1] (w.heap.size + 4) W0.heap.size (by omega)
    exact hK _ _ t1 t2 ⟨⟨⟨hon, (bS1.alloc _).alloc _⟩, (bR1.alloc _).alloc _⟩, hB1.trans t2⟩ ⟨_, _, t3, t4, by omega, rfl⟩
  case body =>
    rintro ll pre ⟨⟨⟨a1, a2⟩, b1, b2⟩, ha, hb⟩ a' W hll ⟨r, hr⟩ ⟨⟨⟨hon, bS1⟩, bR1⟩, hB1⟩ ⟨Bx, By, bx, by', ⟨hBx, hBy⟩, rfl⟩ hlt
    have hsn := parE_snoc (q1, q2) pre ⟨((a1, a2), b1, b2), ha, hb⟩
    have hso := onE_snoc (q1, q2) pre ⟨((a1, a2), b1, b2), ha, hb⟩
    have hxa : ok a1 a2 := ha
    have hxb : ok b1 b2 := hb
    have hsW := hB1.size
    have bQ1 := hB1.box2 (by omega) (by simp only [List.mem_cons, List.not_mem_nil, or_false]; omega) bQ
    have kq0 := bQ1.c0
    have kq1 := bQ1.c1
    have k2 := bx.c0
    have k3 := bx.c1
    have k4 := by'.c0
    have k5 := by'.c1
    dsimp only at kq0 kq1 k2 k3 k4 k5
    have lx := bx.lt
    have ly := by'.lt
    have HS := Lib.hid hsn
    have HO := Lib.hid hso
    have HN := Lib.hid hon
    clear hsn hso hon
    have h1' : 1 ≤ n - 1 - 1 := by omega
    have zq : w.heap.size < W.heap.size := by omega
    have zr : w.heap.size + 1 < W.heap.size := by omega
    have zs : w.heap.size + 1 + 1 < W.heap.size := by omega
    have ONP := Lib.hid (show onP (q1, q2) (a1, a2) (b1, b2) = on q1 q2 a1 a2 b1 b2 from rfl)
    cases hv : on q1 q2 a1 a2 b1 b2
    · have HV := Lib.hid hv
      gi_wp2_with fail
      refine ⟨trivial, ?_⟩
      refine (CallsIn.inRound ll (callsIn_wide.2 (pon_c _ _ _ _ _ _ _ hq hxa hxb))).mono ?_
      rintro e w1 ⟨rfl, hb1⟩
      obtain ⟨hc1, hf1⟩ := bcell hb1
      have hs1 := hb1.size
      replace kq0 : w1.cell? ⟨w.heap.size, 0, none⟩ = some (.int .i64 q1) := (hc1 _ _ zq).trans kq0
      replace kq1 : w1.cell? ⟨w.heap.size, 1, none⟩ = some (.int .i64 q2) := (hc1 _ _ zq).trans kq1
      replace k2 : w1.cell? ⟨Bx, 0, none⟩ = some (.int .i64 a1) := (hc1 _ _ lx).trans k2
      replace k3 : w1.cell? ⟨Bx, 1, none⟩ = some (.int .i64 a2) := (hc1 _ _ lx).trans k3
      replace k4 : w1.cell? ⟨By, 0, none⟩ = some (.int .i64 b1) := (hc1 _ _ ly).trans k4
      replace k5 : w1.cell? ⟨By, 1, none⟩ = some (.int .i64 b2) := (hc1 _ _ ly).trans k5
      clear hc1 hf1
      gi_wp2_with fail
      refine ⟨trivial, ?_⟩
      refine (CallsIn.inRound ll (callsIn_wide.2 (passes_c _ _ _ _ _ _ _ hq hxa hxb))).mono ?_
      rintro e w2 ⟨rfl, hb2⟩
      have hb12 : Below W.heap.size W w2 := bstep hb1 hb2
      have hs2 := hb12.size
      have bS2 := bxd_below bS1 hb12 zs
      have bR2 := bxd_below bR1 hb12 zr
      have kS := bS2.cell
      have fS := bS2.frozen
      have hbut : But [w.heap.size + 1, w.heap.size + 1 + 1] (w.heap.size + 4) W w2 := But.of_below hb12 (by omega)
      have hkf := (keeps_of_below hb12).from W0.heap.size
      clear hb1 hb2
      cases hp : paE (q1, q2) (a1, a2) (b1, b2)
      · have HP := Lib.hid hp
        gi_wp2
        exact ⟨hkf, hbut, ⟨⟨by rw [HO.out, HN.out, ONP.out, HV.out]; rfl, by rw [HS.out, HP.out]; simpa using bS2⟩, bR2⟩, hB1.trans hbut⟩
      · have HP := Lib.hid hp
        have HG := Lib.hid (sgB_neg (parE (q1, q2) pre))
        have hsg : -1 ≤ sgB (parE (q1, q2) pre) ∧ sgB (parE (q1, q2) pre) ≤ 1 := by unfold sgB; split <;> omega
        generalize hG : sgB (parE (q1, q2) pre) = G at *
        obtain ⟨hsg1, hsg2⟩ := hsg
        clear hG
        gi_wp2
        refine ⟨hkf.trans ((KeepsOthers.setCell _ _ _).from _), hbut.set (p := ⟨w.heap.size + 1 + 1, 0, none⟩) (by simp) _, ⟨⟨by rw [HO.out, HN.out, ONP.out, HV.out]; rfl, ?_⟩, bR2.other (by omega) _⟩, (hB1.trans hbut).set (p := ⟨w.heap.size + 1 + 1, 0, none⟩) (by simp) _⟩
        have hq2 := bS2.set (.int .i64 (-G))
        rw [HS.out, HP.out]
        have : sgB (parE (q1, q2) pre != true) = -G := by rw [HG.out]; cases parE (q1, q2) pre <;> rfl
        rw [this]
        exact hq2
    · have HV := Lib.hid hv
      gi_wp2_with fail
      refine ⟨trivial, ?_⟩
      refine (CallsIn.inRound ll (callsIn_wide.2 (pon_c _ _ _ _ _ _ _ hq hxa hxb))).mono ?_
      rintro e w1 ⟨rfl, hb1⟩
      have hs1 := hb1.size
      have bR2 := bxd_below bR1 hb1 zr
      have kR := bR2.cell
      have fR := bR2.frozen
      have hbut : But [w.heap.size + 1, w.heap.size + 1 + 1] (w.heap.size + 4) W w1 := But.of_below hb1 (by omega)
      have hkf := (keeps_of_below hb1).from W0.heap.size
      clear hb1
      gi_wp2
      exact ⟨hkf.trans ((KeepsOthers.setCell _ _ _).from _), ⟨⟨rfl, by rw [HO.out, ONP.out, HV.out]; simp⟩, bR2.set _⟩, (hB1.trans hbut).set (p := ⟨w.heap.size + 1, 0, none⟩) (by simp) _⟩
  case done =>
    rintro D ys W hD rfl ⟨⟨⟨hon, bS1⟩, bR1⟩, hB1⟩ hK
    have kS := bS1.cell
    have kR := bR1.cell
    have fR := bR1.frozen
    have HN := Lib.hid hon
    clear hon
    have HX := Lib.hid (show siE (q1, q2) (eds l hl) = sgB (parE (q1, q2) (eds l hl)) by unfold siE sgB; rw [HN.out]; simp)
    generalize hG : sgB (parE (q1, q2) (eds l hl)) = G at *
    clear hG
    gi_wp2
    have hK' := (KeepsOthers.setCell W ⟨w.heap.size + 1, 0, none⟩ (.int .i64 G)).same D _ hK rfl
    refine ⟨by simp, .inl ⟨_, _, rfl, run_takeDeferred hK', ?_⟩⟩
    have hc5 := cell_kept (bR1.set (.int .i64 G)).cell (grownBy_putObj' _ D (.deferred none)) (fun r e => by cases e; exact ⟨_, hK', rfl⟩)
    refine ⟨(.int .i64 G), ?_, by rw [HX.out], ?_⟩
    · simp [results, Tryz.f179, go_sem, hc5]
    · exact (hB0.trans ((hB1.below (by omega) (by simp; omega)).setCell (p := ⟨w.heap.size + 1, 0, none⟩) (by simp) _)).trans (belowK_b (w := w) (Nat.le_refl _) _ D _ _ (by omega) hK' rfl rfl)
  case stop =>
    rintro D c pre W hD hpre ⟨⟨⟨rfl, hin⟩, bR1⟩, hB1⟩ hK
    gi_wp2
    refine ⟨by simp, .inl ⟨_, _, rfl, run_takeDeferred hK, ?_⟩⟩
    have hc5 := cell_kept bR1.cell (grownBy_putObj' _ D (.deferred none)) (fun r e => by cases e; exact ⟨_, hK, rfl⟩)
    refine ⟨(.int .i64 0), ?_, by unfold siE; rw [onE_mono hpre hin]; rfl, ?_⟩
    · simp [results, Tryz.f179, go_sem, hc5]
    · exact (hB0.trans (hB1.below (by omega) (by simp; omega))).trans (belowK_b (w := w) (Nat.le_refl _) _ D _ _ (by omega) hK rfl rfl)

end Go.Proofs.YtfgajejhjbfhjaaGreat.Po
end

section
namespace Go.Proofs.YtfgajejhjbfhjaaGreat.Po
open Go.RowKit Go.Shelf
set_option linter.unusedSimpArgs false
set_option linter.unusedVariables false
attribute [local go_sem] Oper.semAt_some

/-- What the edges say of a place, in plain words. -/
def siL (q : Pt) (l : List Pt) : Int :=
  if ((List.range l.length).any fun i => onP q (gp l i) (nx l i)) = true then 0
  else if ((List.range l.length).foldl (fun b i => b != paE q (gp l i) (nx l i)) false) = true then 1 else -1
theorem siL_eq (q : Pt) (l : List Pt) (hl : okL l = true) : siE q (eds l hl) = siL q l := by
  unfold siE siL onE parE eds upto
  rw [List.any_map, List.foldl_map]
  rfl
def arL (l : List Pt) : Int := ((List.range l.length).map fun i => (gp l i).1 * (nx l i).2 - (gp l i).2 * (nx l i).1).sum
theorem arL_eq (l : List Pt) (hl : okL l = true) : areaE (eds l hl) = arL l := by
  unfold areaE arL eds upto
  rw [List.map_map]
  rfl
theorem side_c (b off cap : Nat) (l : List Pt) (q1 q2 : Int) (w : World) (hl : okL l = true) (hq : ok q1 q2) (h24 : l.length ≤ 24) (h0l : 0 < l.length) (hc : Row w b off l) :
    Calls Tryz.prog 179 #[.slice (some ⟨b, off, none⟩) l.length cap, (.agg #[.int .i64 q1, .int .i64 q2])] w (Ret w (.int .i64 (siL (q1, q2) l))) := by
  refine (callsIn_wide.1 (side_in 6 (Nat.le_refl _) b off cap l q1 q2 hl hq h24 h0l w hc)).mono ?_
  rintro e W' ⟨rfl, hb⟩
  exact ⟨by rw [siL_eq], hb⟩
theorem area_c (b off cap : Nat) (l : List Pt) (w : World) (hl : okL l = true) (h24 : l.length ≤ 24) (h0l : 0 < l.length) (hc : Row w b off l) :
    Calls Tryz.prog 168 #[.slice (some ⟨b, off, none⟩) l.length cap] w (Ret w (.int .i64 (arL l))) := by
  refine (callsIn_wide.1 (area_in 6 (Nat.le_refl _) b off cap l hl h24 h0l w hc)).mono ?_
  rintro e W' ⟨rfl, hb⟩
  exact ⟨by rw [arL_eq], hb⟩
set_option maxHeartbeats 400000 in
theorem lacks_c (b off cap : Nat) (l : List Pt) (q1 q2 : Int) (w : World) (hl : okL l = true) (hq : ok q1 q2) (h24 : l.length ≤ 24) (h0l : 0 < l.length) (hc : Row w b off l) :
    Calls Tryz.prog 169 #[.slice (some ⟨b, off, none⟩) l.length cap, (.agg #[.int .i64 q1, .int .i64 q2])] w (Ret w (.bool (decide (siL (q1, q2) l < 0)))) := by
  have hbl := hc.lt h0l
  go_enter Tryz.func169, Tryz.ntmps169
  go_wp2_with fail
  refine Calls.mono (side_c b off cap l q1 q2 _ hl hq h24 h0l (hc.below hbl (by repeat (first | with_reducible exact Below.refl _ _ | with_reducible assumption | with_reducible refine Below.setCell ?_ (by first | omega | (simp <;> omega)) _ | with_reducible refine balloc ?_ _ | with_reducible refine Below.drew ?_ | with_reducible refine bstep ?_ (by with_reducible assumption))))) ?_
  rintro e w1 ⟨rfl, hb1⟩
  go_wp2
  all_goals
    go_ret
    refine ret_bv ?_ (by repeat (first | with_reducible exact Below.refl _ _ | with_reducible assumption | with_reducible refine Below.setCell ?_ (by first | omega | (simp <;> omega)) _ | with_reducible refine balloc ?_ _ | with_reducible refine Below.drew ?_ | with_reducible refine bstep ?_ (by with_reducible assumption)))
    simp <;> omega

def hwB (l : List Pt) (f t : Pt) (c d : Pt) : Bool := !(crP f t c d) && !(!decide (c = t) && onP c f t && !leadsL l c t)
def hwL (l : List Pt) (f t : Pt) : Bool := ((List.range l.length).all fun i => hwB l f t (gp l i) (nx l i)) && leadsL l f t
def hwE (l : List Pt) (f t : Pt) (es : List Ed) : Bool := es.all fun e => hwB l f t e.1.1 e.1.2
theorem hwE_snoc (l : List Pt) (f t : Pt) (es : List Ed) (x : Ed) : hwE l f t (es ++ [x]) = (hwE l f t es && hwB l f t x.1.1 x.1.2) := by simp [hwE]
theorem hwE_mono {l : List Pt} {f t : Pt} {es fs : List Ed} (h : es <+: fs) (ho : hwE l f t es = false) : hwE l f t fs = false := by
  obtain ⟨gs, rfl⟩ := h
  unfold hwE at *
  rw [List.all_append, ho]
  rfl
theorem hwL_eq (l : List Pt) (f t : Pt) (hl : okL l = true) : (hwE l f t (eds l hl) && leadsL l f t) = hwL l f t := by
  unfold hwE hwL eds upto
  rw [List.all_map]
  rfl

set_option maxRecDepth 100000 in
set_option maxHeartbeats 8000000 in
theorem holdsWay_in (n : Nat) (hn : 6 ≤ n) (b off cap : Nat) (l : List Pt) (f1 f2 t1 t2 : Int) (hl : okL l = true) (hf : ok f1 f2) (ht : ok t1 t2) (h24 : l.length ≤ 24) (h0l : 0 < l.length) (w : World) (hc : Row w b off l) :
    CallsIn Fence.wide n Tryz.prog 211 #[.slice (some ⟨b, off, none⟩) l.length cap, (.agg #[.int .i64 f1, .int .i64 f2]), (.agg #[.int .i64 t1, .int .i64 t2])] w fun e W' => e = .returned (.bool (hwE l (f1, f2) (t1, t2) (eds l hl) && leadsL l (f1, f2) (t1, t2))) ∧ Below w.heap.size w W' := by
  have h1 : 1 ≤ n := by omega
  have hbl := hc.lt h0l
  refine callsIn_of_wp_marks Tryz.func211 rfl trivial ?_ rfl
  simp only [Tryz.ntmps211, List.size_toArray, List.length_cons, List.length_nil, Nat.reduceAdd, Nat.reduceSub, Array.replicate_succ, Array.replicate_zero, List.push_toArray, List.append_toArray, List.nil_append, List.cons_append]
  gi_wp2_with (refine ⟨trivial, ?_⟩; gi_at_call 170; refine (edges_in (n - 1) _ _ _ _).mono ?_; rintro e w' ⟨rfl, rfl⟩)
  obtain ⟨W0, hW0⟩ : ∃ W0, (((((w.alloc (.cells #[.slice (some ⟨b, off, none⟩) l.length cap] 158)).alloc (.cells #[(.int .i64 f1), (.int .i64 f2)] 23)).alloc (.cells #[(.int .i64 t1), (.int .i64 t2)] 23)).alloc (.cells #[.bool false] 4)).alloc (.cells #[.slice (some ⟨b, off, none⟩) l.length cap] 158)) = W0 := ⟨_, rfl⟩
  have bP : Boxed W0 (w.heap.size) 158 (.slice (some ⟨b, off, none⟩) l.length cap) := by
    have := ((((Boxed.new w 158 (.slice (some ⟨b, off, none⟩) l.length cap)).alloc (.cells #[(.int .i64 f1), (.int .i64 f2)] 23)).alloc (.cells #[(.int .i64 t1), (.int .i64 t2)] 23)).alloc (.cells #[.bool false] 4)).alloc (.cells #[.slice (some ⟨b, off, none⟩) l.length cap] 158)
    rw [← hW0]; exact this
  have bF : Box2 W0 (w.heap.size + 1) 23 (f1, f2) := by
    have := (((Box2.new (w.alloc (.cells #[.slice (some ⟨b, off, none⟩) l.length cap] 158)) 23 (f1, f2)).alloc (.cells #[(.int .i64 t1), (.int .i64 t2)] 23)).alloc (.cells #[.bool false] 4)).alloc (.cells #[.slice (some ⟨b, off, none⟩) l.length cap] 158)
    rw [World.size_alloc] at this; rw [← hW0]; exact this
  have bT : Box2 W0 (w.heap.size + 1 + 1) 23 (t1, t2) := by
    have := ((Box2.new ((w.alloc (.cells #[.slice (some ⟨b, off, none⟩) l.length cap] 158)).alloc (.cells #[(.int .i64 f1), (.int .i64 f2)] 23)) 23 (t1, t2)).alloc (.cells #[.bool false] 4)).alloc (.cells #[.slice (some ⟨b, off, none⟩) l.length cap] 158)
    rw [World.size_alloc, World.size_alloc] at this; rw [← hW0]; exact this
  have bR : Boxed W0 (w.heap.size + 1 + 1 + 1) 4 (.bool false) := by
    have := (Boxed.new (((w.alloc (.cells #[.slice (some ⟨b, off, none⟩) l.length cap] 158)).alloc (.cells #[(.int .i64 f1), (.int .i64 f2)] 23)).alloc (.cells #[(.int .i64 t1), (.int .i64 t2)] 23)) 4 (.bool false)).alloc (.cells #[.slice (some ⟨b, off, none⟩) l.length cap] 158)
    rw [World.size_alloc, World.size_alloc, World.size_alloc] at this; rw [← hW0]; exact this
  have bE : Boxed W0 (w.heap.size + 1 + 1 + 1 + 1) 158 (.slice (some ⟨b, off, none⟩) l.length cap) := by
    have := Boxed.new ((((w.alloc (.cells #[.slice (some ⟨b, off, none⟩) l.length cap] 158)).alloc (.cells #[(.int .i64 f1), (.int .i64 f2)] 23)).alloc (.cells #[(.int .i64 t1), (.int .i64 t2)] 23)).alloc (.cells #[.bool false] 4)) 158 (.slice (some ⟨b, off, none⟩) l.length cap)
    rw [World.size_alloc, World.size_alloc, World.size_alloc, World.size_alloc] at this; rw [← hW0]; exact this
  have hBW0 : Below w.heap.size w W0 := by rw [← hW0]; exact ((((((Below.refl _ w).alloc (Nat.le_refl _) _).alloc (by simp <;> omega) _).alloc (by simp <;> omega) _).alloc (by simp <;> omega) _).alloc (by simp <;> omega) _)
  have hszW0 : W0.heap.size = w.heap.size + 5 := by rw [← hW0]; simp
  rw [hW0]
  clear hW0
  have hr0 := hc.below hbl hBW0
  refine wpIn_rangeFunc_ownH rfl h1 (gf := 180) (lb := #[.pointer (some ⟨w.heap.size + 1 + 1 + 1 + 1, 0, none⟩)]) rfl trivial (enters_of Tryz.func180 (by kernel_rfl) rfl)
    (edges_stops (n - 1) (by omega) (w.heap.size + 1 + 1 + 1 + 1) (w.heap.size + 5) b off cap l hl h24 h0l (by omega) [w.heap.size + 1 + 1 + 1] (by simp only [List.mem_cons, List.not_mem_nil, or_false]; omega) (by simp only [List.mem_cons, List.not_mem_nil, or_false]; omega) W0 bE.cell (by omega) (by omega) hr0) but_t (but_b (by omega)) (Below.refl _ _) (fun _ => rfl)
    (fun pre W => (hwE l (f1, f2) (t1, t2) pre = true ∧ Boxed W (w.heap.size + 1 + 1 + 1) 4 (.bool false)) ∧ But [w.heap.size + 1 + 1 + 1] (w.heap.size + 5) W0 W)
    (fun c pre W => ((c = .ret ∧ hwE l (f1, f2) (t1, t2) pre = false) ∧ Boxed W (w.heap.size + 1 + 1 + 1) 4 (.bool false)) ∧ But [w.heap.size + 1 + 1 + 1] (w.heap.size + 5) W0 W)
    (OwnFrom.and (OwnFrom.and (ownFrom_pure _ _) (Own.from (boxed_own _ _ (fun _ => Value.bool false)) _)) (ownFrom_but (by omega) (by omega)))
    (fun c => OwnFrom.and (OwnFrom.and (ownFrom_pure _ _) (Own.from (boxed_own _ _ (fun _ => Value.bool false)) _)) (ownFrom_but (by omega) (by omega)))
    ⟨⟨rfl, bR⟩, But.refl _ _ _⟩
    (fun x a' W => ∃ Bx By, Box2 W Bx 23 x.1.1 ∧ Box2 W By 23 x.1.2 ∧ (w.heap.size + 5 ≤ Bx ∧ w.heap.size + 5 ≤ By) ∧ a' = { tmps := #[.slice (some ⟨b, off, none⟩) l.length cap, (.agg #[.int .i64 f1, .int .i64 f2]), (.agg #[.int .i64 t1, .int .i64 t2]), .pointer (some ⟨w.heap.size, 0, none⟩), .pointer (some ⟨w.heap.size + 1, 0, none⟩), .pointer (some ⟨w.heap.size + 1 + 1, 0, none⟩), .pointer (some ⟨w.heap.size + 1 + 1 + 1, 0, none⟩), .pointer (some ⟨Bx, 0, none⟩), .pointer (some ⟨By, 0, none⟩), .slice (some ⟨b, off, none⟩) l.length cap, .func (.func 180) #[] #[.pointer (some ⟨w.heap.size + 1 + 1 + 1 + 1, 0, none⟩)], .agg #[(.int .i64 (x.1.1.1)), (.int .i64 (x.1.1.2))], .agg #[(.int .i64 (x.1.2.1)), (.int .i64 (x.1.2.2))], undef, undef, undef, undef, undef, undef, undef, undef, undef, undef, undef, undef, undef, undef, undef, undef, undef, undef, undef, undef, undef, undef, undef, undef, undef], defers := [] })
    (fun x a' _ X Y row hs hg hr => by
      obtain ⟨Bx, By, e1, e2, e4, e3⟩ := hs
      exact ⟨Bx, By, box2_own Bx _ (fun (_ : Unit) => x.1.1) () X Y row e1 hg (fun r e => (hr r e).2), box2_own By _ (fun (_ : Unit) => x.1.2) () X Y row e2 hg (fun r e => (hr r e).2), e4, e3⟩)
    ?assign ?body ?done ?stop
  case assign =>
    rintro ll pre x W K ⟨⟨hon, bR1⟩, hB1⟩ hK
    have hs1 := hB1.size
    unfold encE
    gi_wp2
    obtain ⟨t1, t2, t3, t4⟩ := two_boxes W 23 x.1.1 x.1.2 [w.heap.size + 1 + 1 + 1] (w.heap.size + 5) W0.heap.size (by omega)
    exact hK _ _ t1 t2 ⟨⟨hon, (bR1.alloc _).alloc _⟩, hB1.trans t2⟩ ⟨_, _, t3, t4, by omega, rfl⟩
  case body =>
    rintro ll pre ⟨⟨⟨a1, a2⟩, b1, b2⟩, ha, hb⟩ a' W hll ⟨r, hr⟩ ⟨⟨hon, bR1⟩, hB1⟩ ⟨Bx, By, bx, by', ⟨hBx, hBy⟩, rfl⟩ hlt
    have hso := hwE_snoc l (f1, f2) (t1, t2) pre ⟨((a1, a2), b1, b2), ha, hb⟩
    have hxa : ok a1 a2 := ha
    have hxb : ok b1 b2 := hb
    have hsW := hB1.size
    have bF1 := hB1.box2 (by omega) (by simp only [List.mem_cons, List.not_mem_nil, or_false]; omega) bF
    have bT1 := hB1.box2 (by omega) (by simp only [List.mem_cons, List.not_mem_nil, or_false]; omega) bT
    have bP1 := hB1.boxed (by omega) (by simp only [List.mem_cons, List.not_mem_nil, or_false]; omega) bP
    have kf0 := bF1.c0
    have kf1 := bF1.c1
    have kt0 := bT1.c0
    have kt1 := bT1.c1
    have kp := bP1.cell
    have k2 := bx.c0
    have k3 := bx.c1
    have k4 := by'.c0
    have k5 := by'.c1
    dsimp only at kf0 kf1 kt0 kt1 k2 k3 k4 k5
    have lx := bx.lt
    have ly := by'.lt
    have HO := Lib.hid hso
    have HN := Lib.hid hon
    have HRW := Lib.hid (hB1.row (b := b) (by omega) (by simp only [List.mem_cons, List.not_mem_nil, or_false]; omega) hr0)
    have hbW : b < W.heap.size := by omega
    clear hso hon
    have h1' : 1 ≤ n - 1 - 1 := by omega
    have zp : w.heap.size < W.heap.size := by omega
    have zf : w.heap.size + 1 < W.heap.size := by omega
    have zt : w.heap.size + 1 + 1 < W.heap.size := by omega
    have zr : w.heap.size + 1 + 1 + 1 < W.heap.size := by omega
    cases hx : (crossB f1 f2 t1 t2 a1 a2 b1 b2 && crossB a1 a2 b1 b2 f1 f2 t1 t2)
    · have HX := Lib.hid (show crP (f1, f2) (t1, t2) (a1, a2) (b1, b2) = false from hx)
      gi_wp2_with fail
      refine ⟨trivial, ?_⟩
      refine (CallsIn.inRound ll (callsIn_wide.2 (pcross_c _ _ _ _ _ _ _ _ _ hf ht hxa hxb))).mono ?_
      rintro e w1 ⟨rfl, hbw1⟩
      obtain ⟨hcq, hfq⟩ := bcell hbw1
      have hsq := hbw1.size
      replace kf0 : w1.cell? ⟨w.heap.size + 1, 0, none⟩ = some (.int .i64 f1) := (hcq _ _ zf).trans kf0
      replace kf1 : w1.cell? ⟨w.heap.size + 1, 1, none⟩ = some (.int .i64 f2) := (hcq _ _ zf).trans kf1
      replace kt0 : w1.cell? ⟨w.heap.size + 1 + 1, 0, none⟩ = some (.int .i64 t1) := (hcq _ _ zt).trans kt0
      replace kt1 : w1.cell? ⟨w.heap.size + 1 + 1, 1, none⟩ = some (.int .i64 t2) := (hcq _ _ zt).trans kt1
      replace kp : w1.cell? ⟨w.heap.size, 0, none⟩ = some (.slice (some ⟨b, off, none⟩) l.length cap) := (hcq _ _ zp).trans kp
      replace k2 : w1.cell? ⟨Bx, 0, none⟩ = some (.int .i64 a1) := (hcq _ _ lx).trans k2
      replace k3 : w1.cell? ⟨Bx, 1, none⟩ = some (.int .i64 a2) := (hcq _ _ lx).trans k3
      replace k4 : w1.cell? ⟨By, 0, none⟩ = some (.int .i64 b1) := (hcq _ _ ly).trans k4
      replace k5 : w1.cell? ⟨By, 1, none⟩ = some (.int .i64 b2) := (hcq _ _ ly).trans k5
      clear hcq hfq
      have hsz1 := hbw1.size
      by_cases e1 : a1 = t1
      · by_cases e2 : a2 = t2
        · subst e1 e2
          have HW := Lib.hid (show hwB l (f1, f2) (a1, a2) (a1, a2) (b1, b2) = true by unfold hwB; rw [HX.out]; simp)
          have bR2 := bxd_below bR1 hbw1 zr
          have hbut : But [w.heap.size + 1 + 1 + 1] (w.heap.size + 5) W w1 := But.of_below hbw1 (by omega)
          have hkf := (keeps_of_below hbw1).from W0.heap.size
          gi_wp2
          refine ⟨trivial, ?_⟩
          gi_wp2
          refine ⟨trivial, ?_⟩
          gi_wp2
          exact ⟨hkf, hbut, ⟨by rw [HO.out, HN.out, HW.out]; rfl, bR2⟩, hB1.trans hbut⟩
        · subst e1
          have HQ := Lib.hid (show ¬ ((a1, a2) : Pt) = (a1, t2) by intro h; exact e2 (Prod.mk.inj h).2)
          cases hv : on a1 a2 f1 f2 a1 t2
          · have HV := Lib.hid (show onP (a1, a2) (f1, f2) (a1, t2) = false from hv)
            gi_wp2_with fail
            refine ⟨trivial, ?_⟩
            refine (CallsIn.inRound ll (callsIn_wide.2 (pon_c _ _ _ _ _ _ _ (by assumption) hf ht))).mono ?_
            rintro e w2 ⟨rfl, hbw2⟩
            have hb12 : Below W.heap.size W w2 := bstep hbw1 hbw2
            have HW := Lib.hid (show hwB l (f1, f2) (a1, t2) (a1, a2) (b1, b2) = true by unfold hwB; rw [HX.out, HV.out]; simp)
            have bR2 := bxd_below bR1 hb12 zr
            have hbut : But [w.heap.size + 1 + 1 + 1] (w.heap.size + 5) W w2 := But.of_below hb12 (by omega)
            have hkf := (keeps_of_below hb12).from W0.heap.size
            gi_wp2
            refine ⟨trivial, ?_⟩
            gi_wp2
            exact ⟨hkf, hbut, ⟨by rw [HO.out, HN.out, HW.out]; rfl, bR2⟩, hB1.trans hbut⟩
          · have HV := Lib.hid (show onP (a1, a2) (f1, f2) (a1, t2) = true from hv)
            gi_wp2_with fail
            refine ⟨trivial, ?_⟩
            refine (CallsIn.inRound ll (callsIn_wide.2 (pon_c _ _ _ _ _ _ _ (by assumption) hf ht))).mono ?_
            rintro e w2 ⟨rfl, hbw2⟩
            obtain ⟨hcq, hfq⟩ := bcell hbw2
            have hsq := hbw2.size
            replace kf0 : w2.cell? ⟨w.heap.size + 1, 0, none⟩ = some (.int .i64 f1) := (hcq _ _ (Nat.lt_of_lt_of_le zf hsz1)).trans kf0
            replace kf1 : w2.cell? ⟨w.heap.size + 1, 1, none⟩ = some (.int .i64 f2) := (hcq _ _ (Nat.lt_of_lt_of_le zf hsz1)).trans kf1
            replace kt0 : w2.cell? ⟨w.heap.size + 1 + 1, 0, none⟩ = some (.int .i64 a1) := (hcq _ _ (Nat.lt_of_lt_of_le zt hsz1)).trans kt0
            replace kt1 : w2.cell? ⟨w.heap.size + 1 + 1, 1, none⟩ = some (.int .i64 t2) := (hcq _ _ (Nat.lt_of_lt_of_le zt hsz1)).trans kt1
            replace kp : w2.cell? ⟨w.heap.size, 0, none⟩ = some (.slice (some ⟨b, off, none⟩) l.length cap) := (hcq _ _ (Nat.lt_of_lt_of_le zp hsz1)).trans kp
            replace k2 : w2.cell? ⟨Bx, 0, none⟩ = some (.int .i64 a1) := (hcq _ _ (Nat.lt_of_lt_of_le lx hsz1)).trans k2
            replace k3 : w2.cell? ⟨Bx, 1, none⟩ = some (.int .i64 a2) := (hcq _ _ (Nat.lt_of_lt_of_le lx hsz1)).trans k3
            replace k4 : w2.cell? ⟨By, 0, none⟩ = some (.int .i64 b1) := (hcq _ _ (Nat.lt_of_lt_of_le ly hsz1)).trans k4
            replace k5 : w2.cell? ⟨By, 1, none⟩ = some (.int .i64 b2) := (hcq _ _ (Nat.lt_of_lt_of_le ly hsz1)).trans k5
            clear hcq hfq
            have hb12 : Below W.heap.size W w2 := bstep hbw1 hbw2
            have hsz2 := hb12.size
            clear hbw2
            cases hd : leadsL l (a1, a2) (a1, t2)
            · have HD := Lib.hid hd
              gi_wp2_with fail
              refine ⟨trivial, ?_⟩
              refine (CallsIn.inRound ll (callsIn_wide.2 (leads_c b off cap l _ _ _ _ _ hl (by assumption) ht h24 h0l (HRW.out.below hbW hb12)))).mono ?_
              rintro e w3 ⟨rfl, hbw3⟩
              have hb13 : Below W.heap.size W w3 := bstep hb12 hbw3
              have HW := Lib.hid (show hwB l (f1, f2) (a1, t2) (a1, a2) (b1, b2) = false by unfold hwB; rw [HX.out, HV.out, HD.out]; simp [HQ.out])
              have bR2 := bxd_below bR1 hb13 zr
              have kR := bR2.cell
              have fR := bR2.frozen
              have hbut : But [w.heap.size + 1 + 1 + 1] (w.heap.size + 5) W w3 := But.of_below hb13 (by omega)
              have hkf := (keeps_of_below hb13).from W0.heap.size
              gi_wp2
              exact ⟨hkf.trans ((KeepsOthers.setCell _ _ _).from _), ⟨⟨rfl, by rw [HO.out, HW.out]; simp⟩, bR2.set _⟩, (hB1.trans hbut).set (p := ⟨w.heap.size + 1 + 1 + 1, 0, none⟩) (by simp) _⟩
            · have HD := Lib.hid hd
              gi_wp2_with fail
              refine ⟨trivial, ?_⟩
              refine (CallsIn.inRound ll (callsIn_wide.2 (leads_c b off cap l _ _ _ _ _ hl (by assumption) ht h24 h0l (HRW.out.below hbW hb12)))).mono ?_
              rintro e w3 ⟨rfl, hbw3⟩
              have hb13 : Below W.heap.size W w3 := bstep hb12 hbw3
              have HW := Lib.hid (show hwB l (f1, f2) (a1, t2) (a1, a2) (b1, b2) = true by unfold hwB; rw [HX.out, HD.out]; simp)
              have bR2 := bxd_below bR1 hb13 zr
              have hbut : But [w.heap.size + 1 + 1 + 1] (w.heap.size + 5) W w3 := But.of_below hb13 (by omega)
              have hkf := (keeps_of_below hb13).from W0.heap.size
              gi_wp2
              exact ⟨hkf, hbut, ⟨by rw [HO.out, HN.out, HW.out]; rfl, bR2⟩, hB1.trans hbut⟩
      · have HQ := Lib.hid (show ¬ ((a1, a2) : Pt) = (t1, t2) by intro h; exact e1 (Prod.mk.inj h).1)
        cases hv : on a1 a2 f1 f2 t1 t2
        · have HV := Lib.hid (show onP (a1, a2) (f1, f2) (t1, t2) = false from hv)
          gi_wp2_with fail
          refine ⟨trivial, ?_⟩
          refine (CallsIn.inRound ll (callsIn_wide.2 (pon_c _ _ _ _ _ _ _ (by assumption) hf ht))).mono ?_
          rintro e w2 ⟨rfl, hbw2⟩
          have hb12 : Below W.heap.size W w2 := bstep hbw1 hbw2
          have HW := Lib.hid (show hwB l (f1, f2) (t1, t2) (a1, a2) (b1, b2) = true by unfold hwB; rw [HX.out, HV.out]; simp)
          have bR2 := bxd_below bR1 hb12 zr
          have hbut : But [w.heap.size + 1 + 1 + 1] (w.heap.size + 5) W w2 := But.of_below hb12 (by omega)
          have hkf := (keeps_of_below hb12).from W0.heap.size
          gi_wp2
          refine ⟨trivial, ?_⟩
          gi_wp2
          exact ⟨hkf, hbut, ⟨by rw [HO.out, HN.out, HW.out]; rfl, bR2⟩, hB1.trans hbut⟩
        · have HV := Lib.hid (show onP (a1, a2) (f1, f2) (t1, t2) = true from hv)
          gi_wp2_with fail
          refine ⟨trivial, ?_⟩
          refine (CallsIn.inRound ll (callsIn_wide.2 (pon_c _ _ _ _ _ _ _ (by assumption) hf ht))).mono ?_
          rintro e w2 ⟨rfl, hbw2⟩
          obtain ⟨hcq, hfq⟩ := bcell hbw2
          have hsq := hbw2.size
          replace kf0 : w2.cell? ⟨w.heap.size + 1, 0, none⟩ = some (.int .i64 f1) := (hcq _ _ (Nat.lt_of_lt_of_le zf hsz1)).trans kf0
          replace kf1 : w2.cell? ⟨w.heap.size + 1, 1, none⟩ = some (.int .i64 f2) := (hcq _ _ (Nat.lt_of_lt_of_le zf hsz1)).trans kf1
          replace kt0 : w2.cell? ⟨w.heap.size + 1 + 1, 0, none⟩ = some (.int .i64 t1) := (hcq _ _ (Nat.lt_of_lt_of_le zt hsz1)).trans kt0
          replace kt1 : w2.cell? ⟨w.heap.size + 1 + 1, 1, none⟩ = some (.int .i64 t2) := (hcq _ _ (Nat.lt_of_lt_of_le zt hsz1)).trans kt1
          replace kp : w2.cell? ⟨w.heap.size, 0, none⟩ = some (.slice (some ⟨b, off, none⟩) l.length cap) := (hcq _ _ (Nat.lt_of_lt_of_le zp hsz1)).trans kp
          replace k2 : w2.cell? ⟨Bx, 0, none⟩ = some (.int .i64 a1) := (hcq _ _ (Nat.lt_of_lt_of_le lx hsz1)).trans k2
          replace k3 : w2.cell? ⟨Bx, 1, none⟩ = some (.int .i64 a2) := (hcq _ _ (Nat.lt_of_lt_of_le lx hsz1)).trans k3
          replace k4 : w2.cell? ⟨By, 0, none⟩ = some (.int .i64 b1) := (hcq _ _ (Nat.lt_of_lt_of_le ly hsz1)).trans k4
          replace k5 : w2.cell? ⟨By, 1, none⟩ = some (.int .i64 b2) := (hcq _ _ (Nat.lt_of_lt_of_le ly hsz1)).trans k5
          clear hcq hfq
          have hb12 : Below W.heap.size W w2 := bstep hbw1 hbw2
          have hsz2 := hb12.size
          clear hbw2
          cases hd : leadsL l (a1, a2) (t1, t2)
          · have HD := Lib.hid hd
            gi_wp2_with fail
            refine ⟨trivial, ?_⟩
            refine (CallsIn.inRound ll (callsIn_wide.2 (leads_c b off cap l _ _ _ _ _ hl (by assumption) ht h24 h0l (HRW.out.below hbW hb12)))).mono ?_
            rintro e w3 ⟨rfl, hbw3⟩
            have hb13 : Below W.heap.size W w3 := bstep hb12 hbw3
            have HW := Lib.hid (show hwB l (f1, f2) (t1, t2) (a1, a2) (b1, b2) = false by unfold hwB; rw [HX.out, HV.out, HD.out]; simp [HQ.out])
            have bR2 := bxd_below bR1 hb13 zr
            have kR := bR2.cell
            have fR := bR2.frozen
            have hbut : But [w.heap.size + 1 + 1 + 1] (w.heap.size + 5) W w3 := But.of_below hb13 (by omega)
            have hkf := (keeps_of_below hb13).from W0.heap.size
            gi_wp2
            exact ⟨hkf.trans ((KeepsOthers.setCell _ _ _).from _), ⟨⟨rfl, by rw [HO.out, HW.out]; simp⟩, bR2.set _⟩, (hB1.trans hbut).set (p := ⟨w.heap.size + 1 + 1 + 1, 0, none⟩) (by simp) _⟩
          · have HD := Lib.hid hd
            gi_wp2_with fail
            refine ⟨trivial, ?_⟩
            refine (CallsIn.inRound ll (callsIn_wide.2 (leads_c b off cap l _ _ _ _ _ hl (by assumption) ht h24 h0l (HRW.out.below hbW hb12)))).mono ?_
            rintro e w3 ⟨rfl, hbw3⟩
            have hb13 : Below W.heap.size W w3 := bstep hb12 hbw3
            have HW := Lib.hid (show hwB l (f1, f2) (t1, t2) (a1, a2) (b1, b2) = true by unfold hwB; rw [HX.out, HD.out]; simp)
            have bR2 := bxd_below bR1 hb13 zr
            have hbut : But [w.heap.size + 1 + 1 + 1] (w.heap.size + 5) W w3 := But.of_below hb13 (by omega)
            have hkf := (keeps_of_below hb13).from W0.heap.size
            gi_wp2
            exact ⟨hkf, hbut, ⟨by rw [HO.out, HN.out, HW.out]; rfl, bR2⟩, hB1.trans hbut⟩
    · have HX := Lib.hid (show crP (f1, f2) (t1, t2) (a1, a2) (b1, b2) = true from hx)
      gi_wp2_with fail
      refine ⟨trivial, ?_⟩
      refine (CallsIn.inRound ll (callsIn_wide.2 (pcross_c _ _ _ _ _ _ _ _ _ hf ht hxa hxb))).mono ?_
      rintro e w1 ⟨rfl, hbw1⟩
      have HW := Lib.hid (show hwB l (f1, f2) (t1, t2) (a1, a2) (b1, b2) = false by unfold hwB; rw [HX.out]; simp)
      have bR2 := bxd_below bR1 hbw1 zr
      have kR := bR2.cell
      have fR := bR2.frozen
      have hbut : But [w.heap.size + 1 + 1 + 1] (w.heap.size + 5) W w1 := But.of_below hbw1 (by omega)
      have hkf := (keeps_of_below hbw1).from W0.heap.size
      gi_wp2
      exact ⟨hkf.trans ((KeepsOthers.setCell _ _ _).from _), ⟨⟨rfl, by rw [HO.out, HW.out]; simp⟩, bR2.set _⟩, (hB1.trans hbut).set (p := ⟨w.heap.size + 1 + 1 + 1, 0, none⟩) (by simp) _⟩
  case done =>
    rintro D ys W hD rfl ⟨⟨hon, bR1⟩, hB1⟩ hK
    have hsW := hB1.size
    have bF1 := hB1.box2 (by omega) (by simp only [List.mem_cons, List.not_mem_nil, or_false]; omega) bF
    have bT1 := hB1.box2 (by omega) (by simp only [List.mem_cons, List.not_mem_nil, or_false]; omega) bT
    have bP1 := hB1.boxed (by omega) (by simp only [List.mem_cons, List.not_mem_nil, or_false]; omega) bP
    have kf0 := bF1.c0
    have kf1 := bF1.c1
    have kt0 := bT1.c0
    have kt1 := bT1.c1
    have kp := bP1.cell
    dsimp only at kf0 kf1 kt0 kt1
    have HN := Lib.hid hon
    clear hon
    have hrW := hB1.row (b := b) (by omega) (by simp only [List.mem_cons, List.not_mem_nil, or_false]; omega) hr0
    have HRW := Lib.hid hrW
    clear hrW
    have hDW := (Array.getElem?_eq_some_iff.1 hK).1
    have zr : w.heap.size + 1 + 1 + 1 < W.heap.size := by omega
    gi_wp2_with fail
    refine ⟨trivial, ?_⟩
    refine (callsIn_wide.2 (leads_c b off cap l _ _ _ _ _ hl hf ht h24 h0l HRW.out)).mono ?_
    rintro e w5 ⟨rfl, hb5⟩
    have hs5 := hb5.size
    have bR2 := bxd_below bR1 hb5 zr
    have kR := bR2.cell
    have fR := bR2.frozen
    have hK5 : w5.heap[D]? = some (.deferred (some [])) := (hb5.block D hDW).trans hK
    have hbut : But [w.heap.size + 1 + 1 + 1] (w.heap.size + 5) W w5 := But.of_below hb5 (by omega)
    generalize hG : leadsL l (f1, f2) (t1, t2) = G at *
    have HG := Lib.hid hG
    clear hG
    gi_wp2
    have hK' := (KeepsOthers.setCell w5 ⟨w.heap.size + 1 + 1 + 1, 0, none⟩ (.bool G)).same D _ hK5 rfl
    refine ⟨by simp, .inl ⟨_, _, rfl, run_takeDeferred hK', ?_⟩⟩
    have hc5 := cell_kept (bR2.set (.bool G)).cell (grownBy_putObj' _ D (.deferred none)) (fun r e => by cases e; exact ⟨_, hK', rfl⟩)
    refine ⟨.bool G, ?_, by rw [HN.out, HG.out]; rfl, ?_⟩
    · simp [results, Tryz.f211, go_sem, hc5]
    · exact (hBW0.trans (((hB1.trans hbut).below (by omega) (by simp; omega)).setCell (p := ⟨w.heap.size + 1 + 1 + 1, 0, none⟩) (by simp; omega) _)).trans (belowK_b (w := w) (Nat.le_refl _) _ D _ _ (by omega) hK' rfl rfl)
  case stop =>
    rintro D c pre W hD hpre ⟨⟨⟨rfl, hin⟩, bR1⟩, hB1⟩ hK
    gi_wp2
    refine ⟨by simp, .inl ⟨_, _, rfl, run_takeDeferred hK, ?_⟩⟩
    have hc5 := cell_kept bR1.cell (grownBy_putObj' _ D (.deferred none)) (fun r e => by cases e; exact ⟨_, hK, rfl⟩)
    refine ⟨.bool false, ?_, by rw [hwE_mono hpre hin]; rfl, ?_⟩
    · simp [results, Tryz.f211, go_sem, hc5]
    · exact (hBW0.trans (hB1.below (by omega) (by simp; omega))).trans (belowK_b (w := w) (Nat.le_refl _) _ D _ _ (by omega) hK rfl rfl)

theorem holdsWay_c (b off cap : Nat) (l : List Pt) (f1 f2 t1 t2 : Int) (w : World) (hl : okL l = true) (hf : ok f1 f2) (ht : ok t1 t2) (h24 : l.length ≤ 24) (h0l : 0 < l.length) (hc : Row w b off l) :
    Calls Tryz.prog 211 #[.slice (some ⟨b, off, none⟩) l.length cap, (.agg #[.int .i64 f1, .int .i64 f2]), (.agg #[.int .i64 t1, .int .i64 t2])] w (Ret w (.bool (hwL l (f1, f2) (t1, t2)))) := by
  refine (callsIn_wide.1 (holdsWay_in 6 (Nat.le_refl _) b off cap l f1 f2 t1 t2 hl hf ht h24 h0l w hc)).mono ?_
  rintro e W' ⟨rfl, hb⟩
  exact ⟨by rw [hwL_eq], hb⟩

end Go.Proofs.YtfgajejhjbfhjaaGreat.Po
end

section
namespace Go.Proofs.YtfgajejhjbfhjaaGreat.Po
open Go.RowKit Go.Shelf
set_option linter.unusedSimpArgs false
set_option linter.unusedVariables false
attribute [local go_sem] Oper.semAt_some

theorem box2_below {W W' : World} {B m : Nat} {t : TypeId} {p : Pt} (h : Box2 W B t p) (hb : Below m W W') (hm : B < m) : Box2 W' B t p := (hb.block B hm).trans h
def neP (q a b : Pt) (r : Int) : Bool := nearB q.1 q.2 a.1 a.2 b.1 b.2 r
def apP (q a b : Pt) (r : Int) : Bool := decide (0 ≤ cmpDist q.1 q.2 a.1 a.2 b.1 b.2 r)
/-- An edge that does not matter to a disc. -/
def diB (q : Pt) (r : Int) (out : Bool) (c d : Pt) : Bool := apP q c d r && !(out && neP q c d r)
def diE (q : Pt) (r : Int) (out : Bool) (es : List Ed) : Bool := es.all fun e => diB q r out e.1.1 e.1.2
theorem diE_snoc (q : Pt) (r : Int) (out : Bool) (es : List Ed) (x : Ed) : diE q r out (es ++ [x]) = (diE q r out es && diB q r out x.1.1 x.1.2) := by simp [diE]
theorem diE_mono {q : Pt} {r : Int} {out : Bool} {es fs : List Ed} (h : es <+: fs) (ho : diE q r out es = false) : diE q r out fs = false := by
  obtain ⟨gs, rfl⟩ := h
  unfold diE at *
  rw [List.all_append, ho]
  rfl
def diV (all out : Bool) : Int := if all = true then (if out = true then -1 else 1) else 0
def diL (l : List Pt) (q : Pt) (r : Int) : Int := diV ((List.range l.length).all fun i => diB q r (decide (siL q l < 0)) (gp l i) (nx l i)) (decide (siL q l < 0))
theorem diL_eq (l : List Pt) (q : Pt) (r : Int) (hl : okL l = true) : diV (diE q r (decide (siL q l < 0)) (eds l hl)) (decide (siL q l < 0)) = diL l q r := by
  unfold diE diL eds upto
  rw [List.all_map]
  rfl

set_option maxRecDepth 100000 in
set_option maxHeartbeats 8000000 in
theorem disc_in (n : Nat) (hn : 6 ≤ n) (b off cap : Nat) (l : List Pt) (q1 q2 r : Int) (hl : okL l = true) (hq : ok q1 q2) (hd : okd r) (h24 : l.length ≤ 24) (h0l : 0 < l.length) (w : World) (hc : Row w b off l) :
    CallsIn Fence.wide n Tryz.prog 160 #[.slice (some ⟨b, off, none⟩) l.length cap, (.agg #[.int .i64 q1, .int .i64 q2]), (.int .i64 r)] w fun e W' => e = .returned (.int .i64 (diV (diE (q1, q2) r (decide (siL (q1, q2) l < 0)) (eds l hl)) (decide (siL (q1, q2) l < 0)))) ∧ Below w.heap.size w W' := by
  have h1 : 1 ≤ n := by omega
  have hbl := hc.lt h0l
  refine callsIn_of_wp_marks Tryz.func160 rfl trivial ?_ rfl
  simp only [Tryz.ntmps160, List.size_toArray, List.length_cons, List.length_nil, Nat.reduceAdd, Nat.reduceSub, Array.replicate_succ, Array.replicate_zero, List.push_toArray, List.append_toArray, List.nil_append, List.cons_append]
  gi_wp2_with fail
  refine ⟨trivial, ?_⟩
  obtain ⟨Wp, hWp⟩ : ∃ Wp, (((w.alloc (.cells #[(.int .i64 q1), (.int .i64 q2)] 23)).alloc (.cells #[(.int .i64 r)] 3)).alloc (.cells #[(.int .i64 0)] 3)) = Wp := ⟨_, rfl⟩
  have bQ : Box2 Wp (w.heap.size) 23 (q1, q2) := by
    have := ((Box2.new w 23 (q1, q2)).alloc (.cells #[(.int .i64 r)] 3)).alloc (.cells #[(.int .i64 0)] 3)
    rw [← hWp]; exact this
  have bD : Boxed Wp (w.heap.size + 1) 3 ((.int .i64 r)) := by
    have := (Boxed.new (w.alloc (.cells #[(.int .i64 q1), (.int .i64 q2)] 23)) 3 ((.int .i64 r))).alloc (.cells #[(.int .i64 0)] 3)
    rw [World.size_alloc] at this; rw [← hWp]; exact this
  have bR : Boxed Wp (w.heap.size + 1 + 1) 3 ((.int .i64 0)) := by
    have := Boxed.new ((w.alloc (.cells #[(.int .i64 q1), (.int .i64 q2)] 23)).alloc (.cells #[(.int .i64 r)] 3)) 3 ((.int .i64 0))
    rw [World.size_alloc, World.size_alloc] at this; rw [← hWp]; exact this
  have hBWp : Below w.heap.size w Wp := by rw [← hWp]; exact ((((Below.refl _ w).alloc (Nat.le_refl _) _).alloc (by simp <;> omega) _).alloc (by simp <;> omega) _)
  have hszWp : Wp.heap.size = w.heap.size + 3 := by rw [← hWp]; simp
  rw [hWp]
  clear hWp
  refine (callsIn_wide.2 (lacks_c b off cap l _ _ _ hl hq h24 h0l (hc.below hbl hBWp))).mono ?_
  rintro e w1 ⟨rfl, hb1⟩
  have hs1 := hb1.size
  generalize hO : decide (siL (q1, q2) l < 0) = O at *
  have HOO := Lib.hid hO
  clear hO
  gi_wp2_with (refine ⟨trivial, ?_⟩; gi_at_call 170; refine (edges_in (n - 1) _ _ _ _).mono ?_; rintro e w' ⟨rfl, rfl⟩)
  obtain ⟨W0, hW0⟩ : ∃ W0, ((w1.alloc (.cells #[.bool O] 4)).alloc (.cells #[.slice (some ⟨b, off, none⟩) l.length cap] 158)) = W0 := ⟨_, rfl⟩
  have bO : Boxed W0 (w1.heap.size) 4 (.bool O) := by
    have := (Boxed.new w1 4 (.bool O)).alloc (.cells #[.slice (some ⟨b, off, none⟩) l.length cap] 158)
    rw [← hW0]; exact this
  have bE : Boxed W0 (w1.heap.size + 1) 158 (.slice (some ⟨b, off, none⟩) l.length cap) := by
    have := Boxed.new (w1.alloc (.cells #[.bool O] 4)) 158 (.slice (some ⟨b, off, none⟩) l.length cap)
    rw [World.size_alloc] at this; rw [← hW0]; exact this
  have hBW0 : Below w1.heap.size w1 W0 := by rw [← hW0]; exact (((Below.refl _ w1).alloc (Nat.le_refl _) _).alloc (by simp <;> omega) _)
  have hszW0 : W0.heap.size = w1.heap.size + 2 := by rw [← hW0]; simp
  rw [hW0]
  clear hW0
  have hbp0 : Below Wp.heap.size Wp W0 := bstep hb1 hBW0
  have hB0 : Below w.heap.size w W0 := bstep hBWp hbp0
  have bQ0 := box2_below bQ hbp0 (by omega)
  have bD0 := bxd_below bD hbp0 (by omega)
  have bR0 := bxd_below bR hbp0 (by omega)
  have hr0 := hc.below hbl hB0
  refine wpIn_rangeFunc_ownH rfl h1 (gf := 180) (lb := #[.pointer (some ⟨w1.heap.size + 1, 0, none⟩)]) rfl trivial (enters_of Tryz.func180 (by kernel_rfl) rfl)
    (edges_stops (n - 1) (by omega) (w1.heap.size + 1) (w1.heap.size + 2) b off cap l hl h24 h0l (by omega) [w.heap.size + 1 + 1] (by simp only [List.mem_cons, List.not_mem_nil, or_false]; omega) (by simp only [List.mem_cons, List.not_mem_nil, or_false]; omega) W0 bE.cell (by omega) (by omega) hr0) but_t (but_b (by omega)) (Below.refl _ _) (fun _ => rfl)
    (fun pre W => (diE (q1, q2) r O pre = true ∧ Boxed W (w.heap.size + 1 + 1) 3 (.int .i64 0)) ∧ But [w.heap.size + 1 + 1] (w1.heap.size + 2) W0 W)
    (fun c pre W => ((c = .ret ∧ diE (q1, q2) r O pre = false) ∧ Boxed W (w.heap.size + 1 + 1) 3 (.int .i64 0)) ∧ But [w.heap.size + 1 + 1] (w1.heap.size + 2) W0 W)
    (OwnFrom.and (OwnFrom.and (ownFrom_pure _ _) (Own.from (boxed_own _ _ (fun _ => (.int .i64 0))) _)) (ownFrom_but (by omega) (by omega)))
    (fun c => OwnFrom.and (OwnFrom.and (ownFrom_pure _ _) (Own.from (boxed_own _ _ (fun _ => (.int .i64 0))) _)) (ownFrom_but (by omega) (by omega)))
    ⟨⟨rfl, bR0⟩, But.refl _ _ _⟩
    (fun x a' W => ∃ Bx By, Box2 W Bx 23 x.1.1 ∧ Box2 W By 23 x.1.2 ∧ (w1.heap.size + 2 ≤ Bx ∧ w1.heap.size + 2 ≤ By) ∧ a' = { tmps := #[.slice (some ⟨b, off, none⟩) l.length cap, (.agg #[.int .i64 q1, .int .i64 q2]), (.int .i64 r), undef, .pointer (some ⟨w.heap.size, 0, none⟩), .pointer (some ⟨w.heap.size + 1, 0, none⟩), .pointer (some ⟨w.heap.size + 1 + 1, 0, none⟩), .pointer (some ⟨w1.heap.size, 0, none⟩), .pointer (some ⟨Bx, 0, none⟩), .pointer (some ⟨By, 0, none⟩), undef, undef, undef, undef, .slice (some ⟨b, off, none⟩) l.length cap, (.agg #[.int .i64 q1, .int .i64 q2]), .bool O, .slice (some ⟨b, off, none⟩) l.length cap, .func (.func 180) #[] #[.pointer (some ⟨w1.heap.size + 1, 0, none⟩)], .agg #[(.int .i64 (x.1.1.1)), (.int .i64 (x.1.1.2))], .agg #[(.int .i64 (x.1.2.1)), (.int .i64 (x.1.2.2))], undef, undef, undef, undef, undef, undef, undef, undef, undef, undef, undef, undef, undef, undef, undef, undef, undef, undef, undef, undef, undef, undef, undef, undef, undef], defers := [] })
    (fun x a' _ X Y row hs hg hr => by
      obtain ⟨Bx, By, e1, e2, e4, e3⟩ := hs
      exact ⟨Bx, By, box2_own Bx _ (fun (_ : Unit) => x.1.1) () X Y row e1 hg (fun r e => (hr r e).2), box2_own By _ (fun (_ : Unit) => x.1.2) () X Y row e2 hg (fun r e => (hr r e).2), e4, e3⟩)
    ?assign ?body ?done ?stop
  case assign =>
    rintro ll pre x W K ⟨⟨hon, bR1⟩, hB1⟩ hK
    have hs1 := hB1.size
    unfold encE
    gi_wp2
    obtain ⟨t1, t2, t3, t4⟩ := two_boxes W 23 x.1.1 x.1.2 [w.heap.size + 1 + 1] (w1.heap.size + 2) W0.heap.size (by omega)
    exact hK _ _ t1 t2 ⟨⟨hon, (bR1.alloc _).alloc _⟩, hB1.trans t2⟩ ⟨_, _, t3, t4, by omega, rfl⟩
  case body =>
    rintro ll pre ⟨⟨⟨a1, a2⟩, b1, b2⟩, ha, hb⟩ a' W hll ⟨rr, hr⟩ ⟨⟨hon, bR1⟩, hB1⟩ ⟨Bx, By, bx, by', ⟨hBx, hBy⟩, rfl⟩ hlt
    have hso := diE_snoc (q1, q2) r O pre ⟨((a1, a2), b1, b2), ha, hb⟩
    have hxa : ok a1 a2 := ha
    have hxb : ok b1 b2 := hb
    have hsW := hB1.size
    have bQ1 := hB1.box2 (by omega) (by simp only [List.mem_cons, List.not_mem_nil, or_false]; omega) bQ0
    have bD1 := hB1.boxed (by omega) (by simp only [List.mem_cons, List.not_mem_nil, or_false]; omega) bD0
    have bO1 := hB1.boxed (by omega) (by simp only [List.mem_cons, List.not_mem_nil, or_false]; omega) bO
    have kq0 := bQ1.c0
    have kq1 := bQ1.c1
    have kd := bD1.cell
    have ko := bO1.cell
    have k2 := bx.c0
    have k3 := bx.c1
    have k4 := by'.c0
    have k5 := by'.c1
    dsimp only at kq0 kq1 k2 k3 k4 k5
    have lx := bx.lt
    have ly := by'.lt
    have HO := Lib.hid hso
    have HN := Lib.hid hon
    clear hso hon
    have h1' : 1 ≤ n - 1 - 1 := by omega
    have zq : w.heap.size < W.heap.size := by omega
    have zd : w.heap.size + 1 < W.heap.size := by omega
    have zr : w.heap.size + 1 + 1 < W.heap.size := by omega
    have zo : w1.heap.size < W.heap.size := by omega
    gi_wp2_with fail
    refine ⟨trivial, ?_⟩
    refine (CallsIn.inRound ll (callsIn_wide.2 (Near_ok _ _ _ _ _ _ _ _ hq hxa hxb hd))).mono ?_
    rintro e w2 ⟨rfl, hbw2⟩
    obtain ⟨hcq, hfq⟩ := bcell hbw2
    have hsq := hbw2.size
    replace kq0 : w2.cell? ⟨w.heap.size, 0, none⟩ = some (.int .i64 q1) := (hcq _ _ zq).trans kq0
    replace kq1 : w2.cell? ⟨w.heap.size, 1, none⟩ = some (.int .i64 q2) := (hcq _ _ zq).trans kq1
    replace kd : w2.cell? ⟨w.heap.size + 1, 0, none⟩ = some (.int .i64 r) := (hcq _ _ zd).trans kd
    replace ko : w2.cell? ⟨w1.heap.size, 0, none⟩ = some (.bool O) := (hcq _ _ zo).trans ko
    replace k2 : w2.cell? ⟨Bx, 0, none⟩ = some (.int .i64 a1) := (hcq _ _ lx).trans k2
    replace k3 : w2.cell? ⟨Bx, 1, none⟩ = some (.int .i64 a2) := (hcq _ _ lx).trans k3
    replace k4 : w2.cell? ⟨By, 0, none⟩ = some (.int .i64 b1) := (hcq _ _ ly).trans k4
    replace k5 : w2.cell? ⟨By, 1, none⟩ = some (.int .i64 b2) := (hcq _ _ ly).trans k5
    clear hcq hfq
    have hsz2 := hbw2.size
    gi_wp2_with fail
    refine ⟨trivial, ?_⟩
    refine (CallsIn.inRound ll (callsIn_wide.2 (Apart_ok _ _ _ _ _ _ _ _ hq hxa hxb hd))).mono ?_
    rintro e w3 ⟨rfl, hbw3⟩
    have hb13 : Below W.heap.size W w3 := bstep hbw2 hbw3
    obtain ⟨hcq, hfq⟩ := bcell hbw3
    have hsq := hbw3.size
    replace kq0 : w3.cell? ⟨w.heap.size, 0, none⟩ = some (.int .i64 q1) := (hcq _ _ (Nat.lt_of_lt_of_le zq hsz2)).trans kq0
    replace kq1 : w3.cell? ⟨w.heap.size, 1, none⟩ = some (.int .i64 q2) := (hcq _ _ (Nat.lt_of_lt_of_le zq hsz2)).trans kq1
    replace kd : w3.cell? ⟨w.heap.size + 1, 0, none⟩ = some (.int .i64 r) := (hcq _ _ (Nat.lt_of_lt_of_le zd hsz2)).trans kd
    replace ko : w3.cell? ⟨w1.heap.size, 0, none⟩ = some (.bool O) := (hcq _ _ (Nat.lt_of_lt_of_le zo hsz2)).trans ko
    replace k2 : w3.cell? ⟨Bx, 0, none⟩ = some (.int .i64 a1) := (hcq _ _ (Nat.lt_of_lt_of_le lx hsz2)).trans k2
    replace k3 : w3.cell? ⟨Bx, 1, none⟩ = some (.int .i64 a2) := (hcq _ _ (Nat.lt_of_lt_of_le lx hsz2)).trans k3
    replace k4 : w3.cell? ⟨By, 0, none⟩ = some (.int .i64 b1) := (hcq _ _ (Nat.lt_of_lt_of_le ly hsz2)).trans k4
    replace k5 : w3.cell? ⟨By, 1, none⟩ = some (.int .i64 b2) := (hcq _ _ (Nat.lt_of_lt_of_le ly hsz2)).trans k5
    clear hcq hfq
    have bR2 := bxd_below bR1 hb13 zr
    have kR := bR2.cell
    have fR := bR2.frozen
    have hbut : But [w.heap.size + 1 + 1] (w1.heap.size + 2) W w3 := But.of_below hb13 (by omega)
    have hkf := (keeps_of_below hb13).from W0.heap.size
    have HW := Lib.hid (show diB (q1, q2) r O (a1, a2) (b1, b2) = (decide (0 ≤ cmpDist q1 q2 a1 a2 b1 b2 r) && !(O && nearB q1 q2 a1 a2 b1 b2 r)) from rfl)
    clear hbw2 hbw3
    cases hap : decide (0 ≤ cmpDist q1 q2 a1 a2 b1 b2 r)
    all_goals
      cases hne : nearB q1 q2 a1 a2 b1 b2 r
      all_goals
        cases O
        all_goals
          have HA := Lib.hid hap
          have HE := Lib.hid hne
          gi_wp2
          first
          | exact ⟨hkf, hbut, ⟨by rw [HO.out, HN.out, HW.out, HA.out, HE.out]; rfl, bR2⟩, hB1.trans hbut⟩
          | exact ⟨hkf.trans ((KeepsOthers.setCell _ _ _).from _), ⟨⟨rfl, by rw [HO.out, HW.out, HA.out, HE.out]; simp⟩, bR2.set _⟩, (hB1.trans hbut).set (p := ⟨w.heap.size + 1 + 1, 0, none⟩) (by simp) _⟩
  case done =>
    rintro D ys W hD rfl ⟨⟨hon, bR1⟩, hB1⟩ hK
    have hsW := hB1.size
    have bO1 := hB1.boxed (by omega) (by simp only [List.mem_cons, List.not_mem_nil, or_false]; omega) bO
    have ko := bO1.cell
    have HN := Lib.hid hon
    clear hon
    have kR := bR1.cell
    have fR := bR1.frozen
    cases O
    · gi_wp2
      have hK' := (KeepsOthers.setCell W ⟨w.heap.size + 1 + 1, 0, none⟩ (.int .i64 1)).same D _ hK rfl
      refine ⟨by simp, .inl ⟨_, _, rfl, run_takeDeferred hK', ?_⟩⟩
      have hc5 := cell_kept (bR1.set (.int .i64 1)).cell (grownBy_putObj' _ D (.deferred none)) (fun r e => by cases e; exact ⟨_, hK', rfl⟩)
      refine ⟨(.int .i64 1), ?_, by rw [HOO.out, HN.out]; rfl, ?_⟩
      · simp [results, Tryz.f160, go_sem, hc5]
      · exact (hB0.trans ((hB1.below (by omega) (by simp; omega)).setCell (p := ⟨w.heap.size + 1 + 1, 0, none⟩) (by simp; omega) _)).trans (belowK_b (w := w) (Nat.le_refl _) _ D _ _ (by omega) hK' rfl rfl)
    · gi_wp2
      have hK' := (KeepsOthers.setCell W ⟨w.heap.size + 1 + 1, 0, none⟩ (.int .i64 (-1))).same D _ hK rfl
      refine ⟨by simp, .inl ⟨_, _, rfl, run_takeDeferred hK', ?_⟩⟩
      have hc5 := cell_kept (bR1.set (.int .i64 (-1))).cell (grownBy_putObj' _ D (.deferred none)) (fun r e => by cases e; exact ⟨_, hK', rfl⟩)
      refine ⟨(.int .i64 (-1)), ?_, by rw [HOO.out, HN.out]; rfl, ?_⟩
      · simp [results, Tryz.f160, go_sem, hc5]
      · exact (hB0.trans ((hB1.below (by omega) (by simp; omega)).setCell (p := ⟨w.heap.size + 1 + 1, 0, none⟩) (by simp; omega) _)).trans (belowK_b (w := w) (Nat.le_refl _) _ D _ _ (by omega) hK' rfl rfl)
  case stop =>
    rintro D c pre W hD hpre ⟨⟨⟨rfl, hin⟩, bR1⟩, hB1⟩ hK
    gi_wp2
    refine ⟨by simp, .inl ⟨_, _, rfl, run_takeDeferred hK, ?_⟩⟩
    have hc5 := cell_kept bR1.cell (grownBy_putObj' _ D (.deferred none)) (fun r e => by cases e; exact ⟨_, hK, rfl⟩)
    refine ⟨(.int .i64 0), ?_, by rw [HOO.out, diE_mono hpre hin]; rfl, ?_⟩
    · simp [results, Tryz.f160, go_sem, hc5]
    · exact (hB0.trans (hB1.below (by omega) (by simp; omega))).trans (belowK_b (w := w) (Nat.le_refl _) _ D _ _ (by omega) hK rfl rfl)

theorem disc_c (b off cap : Nat) (l : List Pt) (q1 q2 r : Int) (w : World) (hl : okL l = true) (hq : ok q1 q2) (hd : okd r) (h24 : l.length ≤ 24) (h0l : 0 < l.length) (hc : Row w b off l) :
    Calls Tryz.prog 160 #[.slice (some ⟨b, off, none⟩) l.length cap, (.agg #[.int .i64 q1, .int .i64 q2]), (.int .i64 r)] w (Ret w (.int .i64 (diL l (q1, q2) r))) := by
  refine (callsIn_wide.1 (disc_in 6 (Nat.le_refl _) b off cap l q1 q2 r hl hq hd h24 h0l w hc)).mono ?_
  rintro e W' ⟨rfl, hb⟩
  exact ⟨by rw [diL_eq], hb⟩

end Go.Proofs.YtfgajejhjbfhjaaGreat.Po
end
