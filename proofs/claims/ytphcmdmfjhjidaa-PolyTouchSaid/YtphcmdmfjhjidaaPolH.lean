/- PolH: where a place lies of a polygon. -/
import Derived.Test.YtphcmdmfjhjidaaPolF
import Derived.Test.YtphcmdmfjhjidaaPolB
import Derived.Test.YtphcmdmfjhjidaaPolC
import Derived.Test.YtphcmdmfjhjidaaRows
import Derived.RangeFuncNested
import Derived.RangeFuncBound
import Derived.RangeFuncCalls
import Derived.RangeFuncLeaves
import Derived.Shelf.Abstract
import Derived.Shelf.RegionOpen
import Derived.WalkKit
import Derived.OwnWalkIn
import Derived.TacticsInMore
import Derived.LoopNIn
import Derived.LoopIn
import Derived.Outline
import Derived.IntWalk
import Derived.Lib.Hide
import Derived.BigRegion
import Derived.Deep.RegionWith
namespace Go.Proofs.Ytphcmdmfjhjidaa.Po
open Go.RowKit Go.Shelf
set_option linter.unusedSimpArgs false
set_option linter.unusedVariables false
attribute [local go_sem] Oper.semAt_some

theorem bxd_below {W W' : World} {B m : Nat} {t : TypeId} {v : Value} (h : Boxed W B t v) (hb : Below m W W') (hm : B < m) : Boxed W' B t v := (hb.block B hm).trans h
theorem But.boxed {M : List Nat} {m : Nat} {w W : World} {B : Nat} {t : TypeId} {v : Value} (h : But M m w W) (hb : B < m) (hn : B ∉ M) (hr : Boxed w B t v) : Boxed W B t v := (h.block B hb hn).trans hr
theorem But.box2 {M : List Nat} {m : Nat} {w W : World} {B : Nat} {t : TypeId} {p : Pt} (h : But M m w W) (hb : B < m) (hn : B ∉ M) (hr : Box2 w B t p) : Box2 W B t p := (h.block B hb hn).trans hr
theorem bxd_drew {W : World} {B : Nat} {t : TypeId} {v : Value} (h : Boxed W B t v) : Boxed W.drew B t v := h
def onE (q : Pt) (es : List Ed) : Bool := es.any fun e => onP q e.1.1 e.1.2
def parE (q : Pt) (es : List Ed) : Bool := es.foldl (fun b e => b != paE q e.1.1 e.1.2) false
def siE (q : Pt) (es : List Ed) : Int := if onE q es = true then 0 else if parE q es = true then 1 else -1
theorem onE_snoc (q : Pt) (es : List Ed) (x : Ed) : onE q (es ++ [x]) = (onE q es || onP q x.1.1 x.1.2) := by simp [onE]
theorem parE_snoc (q : Pt) (es : List Ed) (x : Ed) : parE q (es ++ [x]) = (parE q es != paE q x.1.1 x.1.2) := by simp [parE]
theorem onE_mono {q : Pt} {es fs : List Ed} (h : es <+: fs) (ho : onE q es = true) : onE q fs = true := by
  obtain ⟨gs, rfl⟩ := h
  unfold onE at *
  rw [List.any_append, ho]
  rfl
def sgB (b : Bool) : Int := if b = true then 1 else -1
theorem sgB_neg (b : Bool) : -sgB b = sgB (!b) := by cases b <;> rfl

set_option maxRecDepth 100000 in
set_option maxHeartbeats 4000000 in
theorem side_in (n : Nat) (hn : 6 ≤ n) (b off cap : Nat) (l : List Pt) (q1 q2 : Int) (hl : okL l = true) (hq : ok q1 q2) (h24 : l.length ≤ 24) (h0l : 0 < l.length) (w : World) (hc : Row w b off l) :
    CallsIn Fence.wide n Try.prog 25 #[.slice (some ⟨b, off, none⟩) l.length cap, (.agg #[.int .i64 q1, .int .i64 q2])] w fun e W' => e = .returned (.int .i64 (siE (q1, q2) (eds l hl))) ∧ Below w.heap.size w W' := by
  have h1 : 1 ≤ n := by omega
  have hbl := hc.lt h0l
  refine callsIn_of_wp_marks Try.func25 rfl trivial ?_ rfl
  simp only [Try.ntmps25, List.size_toArray, List.length_cons, List.length_nil, Nat.reduceAdd, Nat.reduceSub, Array.replicate_succ, Array.replicate_zero, List.push_toArray, List.append_toArray, List.nil_append, List.cons_append]
  gi_wp2_with (refine ⟨trivial, ?_⟩; gi_at_call 42; refine (edges_in (n - 1) _ _ _ _).mono ?_; rintro e w' ⟨rfl, rfl⟩)
  obtain ⟨W0, hW0⟩ : ∃ W0, (((w.alloc (.cells #[(.int .i64 q1), (.int .i64 q2)] 28)).alloc (.cells #[(.int .i64 0)] 3)).alloc (.cells #[(.int .i64 (-1))] 3)).alloc (.cells #[.slice (some ⟨b, off, none⟩) l.length cap] 53) = W0 := ⟨_, rfl⟩
  have bQ : Box2 W0 w.heap.size 28 (q1, q2) := by rw [← hW0]; exact ((((Box2.new w 28 (q1, q2)).alloc _).alloc _).alloc _)
  have bR : Boxed W0 (w.heap.size + 1) 3 (.int .i64 0) := by
    have := ((Boxed.new (w.alloc (.cells #[(.int .i64 q1), (.int .i64 q2)] 28)) 3 (.int .i64 0)).alloc (.cells #[(.int .i64 (-1))] 3)).alloc (.cells #[.slice (some ⟨b, off, none⟩) l.length cap] 53)
    rw [World.size_alloc] at this; rw [← hW0]; exact this
  have bS : Boxed W0 (w.heap.size + 1 + 1) 3 (.int .i64 (-1)) := by
    have := (Boxed.new ((w.alloc (.cells #[(.int .i64 q1), (.int .i64 q2)] 28)).alloc (.cells #[(.int .i64 0)] 3)) 3 (.int .i64 (-1))).alloc (.cells #[.slice (some ⟨b, off, none⟩) l.length cap] 53)
    rw [World.size_alloc, World.size_alloc] at this; rw [← hW0]; exact this
  have bP : Boxed W0 (w.heap.size + 1 + 1 + 1) 53 (.slice (some ⟨b, off, none⟩) l.length cap) := by
    have := Boxed.new (((w.alloc (.cells #[(.int .i64 q1), (.int .i64 q2)] 28)).alloc (.cells #[(.int .i64 0)] 3)).alloc (.cells #[(.int .i64 (-1))] 3)) 53 (.slice (some ⟨b, off, none⟩) l.length cap)
    rw [World.size_alloc, World.size_alloc, World.size_alloc] at this; rw [← hW0]; exact this
  have hB0 : Below w.heap.size w W0 := by rw [← hW0]; exact ((((Below.refl _ w).alloc (Nat.le_refl _) _).alloc (by simp) _).alloc (by simp; omega) _).alloc (by simp; omega) _
  have hsz : W0.heap.size = w.heap.size + 4 := by rw [← hW0]; simp
  rw [hW0]
  clear hW0
  have hr0 := hc.below hbl hB0
  refine wpIn_rangeFunc_ownH rfl h1 (gf := 68) (lb := #[.pointer (some ⟨w.heap.size + 1 + 1 + 1, 0, none⟩)]) rfl trivial (enters_of Try.func68 (by kernel_rfl) rfl)
    (edges_stops (n - 1) (by omega) (w.heap.size + 1 + 1 + 1) (w.heap.size + 4) b off cap l hl h24 h0l (by omega) [w.heap.size + 1, w.heap.size + 1 + 1] (by simp only [List.mem_cons, List.not_mem_nil, or_false]; omega) (by simp only [List.mem_cons, List.not_mem_nil, or_false]; omega) W0 bP.cell (by omega) (by omega) hr0) but_t (but_b (by omega)) (Below.refl _ _) (fun _ => rfl)
    (fun pre W => ((onE (q1, q2) pre = false ∧ Boxed W (w.heap.size + 1 + 1) 3 (.int .i64 (sgB (parE (q1, q2) pre)))) ∧ Boxed W (w.heap.size + 1) 3 (.int .i64 0)) ∧ But [w.heap.size + 1, w.heap.size + 1 + 1] (w.heap.size + 4) W0 W)
    (fun c pre W => ((c = .ret ∧ onE (q1, q2) pre = true) ∧ Boxed W (w.heap.size + 1) 3 (.int .i64 0)) ∧ But [w.heap.size + 1, w.heap.size + 1 + 1] (w.heap.size + 4) W0 W)
    (OwnFrom.and (OwnFrom.and (OwnFrom.and (ownFrom_pure _ _) (Own.from (boxed_own _ _ _) _)) (Own.from (boxed_own _ _ (fun _ => (.int .i64 0))) _)) (ownFrom_but (by omega) (by omega)))
    (fun c => OwnFrom.and (OwnFrom.and (ownFrom_pure _ _) (Own.from (boxed_own _ _ _) _)) (ownFrom_but (by omega) (by omega)))
    ⟨⟨⟨rfl, bS⟩, bR⟩, But.refl _ _ _⟩
    (fun x a' W => ∃ Bx By, Box2 W Bx 28 x.1.1 ∧ Box2 W By 28 x.1.2 ∧ (w.heap.size + 4 ≤ Bx ∧ w.heap.size + 4 ≤ By) ∧ a' = { tmps := #[.slice (some ⟨b, off, none⟩) l.length cap, (.agg #[.int .i64 q1, .int .i64 q2]), undef, .pointer (some ⟨w.heap.size, 0, none⟩), .pointer (some ⟨w.heap.size + 1, 0, none⟩), .pointer (some ⟨w.heap.size + 1 + 1, 0, none⟩), .pointer (some ⟨Bx, 0, none⟩), .pointer (some ⟨By, 0, none⟩), .slice (some ⟨b, off, none⟩) l.length cap, .func (.func 68) #[] #[.pointer (some ⟨w.heap.size + 1 + 1 + 1, 0, none⟩)], .agg #[(.int .i64 (x.1.1.1)), (.int .i64 (x.1.1.2))], .agg #[(.int .i64 (x.1.2.1)), (.int .i64 (x.1.2.2))], undef, undef, undef, undef, undef, undef, undef, undef, undef, undef, undef], defers := [] })
    (fun x a' _ X Y row hs hg hr => by
      obtain ⟨Bx, By, e1, e2, e4, e3⟩ := hs
      exact ⟨Bx, By, box2_own Bx _ (fun (_ : Unit) => x.1.1) () X Y row e1 hg (fun r e => (hr r e).2), box2_own By _ (fun (_ : Unit) => x.1.2) () X Y row e2 hg (fun r e => (hr r e).2), e4, e3⟩)
    ?assign ?body ?done ?stop
  case assign =>
    rintro ll pre x W K ⟨⟨⟨hon, bS1⟩, bR1⟩, hB1⟩ hK
    have hs1 := hB1.size
    unfold encE
    gi_wp2
    obtain ⟨t1, t2, t3, t4⟩ := two_boxes W 28 x.1.1 x.1.2 [w.heap.size + 1, w.heap.size + 1 + 1] (w.heap.size + 4) W0.heap.size (by omega)
    exact hK _ _ t1 t2 ⟨⟨⟨hon, (bS1.alloc _).alloc _⟩, (bR1.alloc _).alloc _⟩, hB1.trans t2⟩ ⟨_, _, t3, t4, by omega, rfl⟩
  case body =>
    rintro ll pre ⟨⟨⟨a1, a2⟩, b1, b2⟩, ha, hb⟩ a' W hll ⟨r, hr⟩ ⟨⟨⟨hon, bS1⟩, bR1⟩, hB1⟩ ⟨Bx, By, bx, by', ⟨hBx, hBy⟩, rfl⟩ hlt
    have hsn := parE_snoc (q1, q2) pre ⟨((a1, a2), b1, b2), ha, hb⟩
    have hso := onE_snoc (q1, q2) pre ⟨((a1, a2), b1, b2), ha, hb⟩
    have hxa : ok a1 a2 := ha
    have hxb : ok b1 b2 := hb
    have hsW := hB1.size
    have bQ1 := hB1.box2 (by omega) (by simp only [List.mem_cons, List.not_mem_nil, or_false]; omega) bQ
    have kq0 := bQ1.c0
    have kq1 := bQ1.c1
    have k2 := bx.c0
    have k3 := bx.c1
    have k4 := by'.c0
    have k5 := by'.c1
    dsimp only at kq0 kq1 k2 k3 k4 k5
    have lx := bx.lt
    have ly := by'.lt
    have HS := Lib.hid hsn
    have HO := Lib.hid hso
    have HN := Lib.hid hon
    clear hsn hso hon
    have h1' : 1 ≤ n - 1 - 1 := by omega
    have zq : w.heap.size < W.heap.size := by omega
    have zr : w.heap.size + 1 < W.heap.size := by omega
    have zs : w.heap.size + 1 + 1 < W.heap.size := by omega
    have ONP := Lib.hid (show onP (q1, q2) (a1, a2) (b1, b2) = on q1 q2 a1 a2 b1 b2 from rfl)
    cases hv : on q1 q2 a1 a2 b1 b2
    · have HV := Lib.hid hv
      gi_wp2_with fail
      refine ⟨trivial, ?_⟩
      refine (CallsIn.inRound ll (callsIn_wide.2 (pon_c _ _ _ _ _ _ _ hq hxa hxb))).mono ?_
      rintro e w1 ⟨rfl, hb1⟩
      obtain ⟨hc1, hf1⟩ := bcell hb1
      have hs1 := hb1.size
      replace kq0 : w1.cell? ⟨w.heap.size, 0, none⟩ = some (.int .i64 q1) := (hc1 _ _ zq).trans kq0
      replace kq1 : w1.cell? ⟨w.heap.size, 1, none⟩ = some (.int .i64 q2) := (hc1 _ _ zq).trans kq1
      replace k2 : w1.cell? ⟨Bx, 0, none⟩ = some (.int .i64 a1) := (hc1 _ _ lx).trans k2
      replace k3 : w1.cell? ⟨Bx, 1, none⟩ = some (.int .i64 a2) := (hc1 _ _ lx).trans k3
      replace k4 : w1.cell? ⟨By, 0, none⟩ = some (.int .i64 b1) := (hc1 _ _ ly).trans k4
      replace k5 : w1.cell? ⟨By, 1, none⟩ = some (.int .i64 b2) := (hc1 _ _ ly).trans k5
      clear hc1 hf1
      gi_wp2_with fail
      refine ⟨trivial, ?_⟩
      refine (CallsIn.inRound ll (callsIn_wide.2 (passes_c _ _ _ _ _ _ _ hq hxa hxb))).mono ?_
      rintro e w2 ⟨rfl, hb2⟩
      have hb12 : Below W.heap.size W w2 := bstep hb1 hb2
      have hs2 := hb12.size
      have bS2 := bxd_below bS1 hb12 zs
      have bR2 := bxd_below bR1 hb12 zr
      have kS := bS2.cell
      have fS := bS2.frozen
      have hbut : But [w.heap.size + 1, w.heap.size + 1 + 1] (w.heap.size + 4) W w2 := But.of_below hb12 (by omega)
      have hkf := (keeps_of_below hb12).from W0.heap.size
      clear hb1 hb2
      cases hp : paE (q1, q2) (a1, a2) (b1, b2)
      · have HP := Lib.hid hp
        gi_wp2
        exact ⟨hkf, hbut, ⟨⟨by rw [HO.out, HN.out, ONP.out, HV.out]; rfl, by rw [HS.out, HP.out]; simpa using bS2⟩, bR2⟩, hB1.trans hbut⟩
      · have HP := Lib.hid hp
        have HG := Lib.hid (sgB_neg (parE (q1, q2) pre))
        have hsg : -1 ≤ sgB (parE (q1, q2) pre) ∧ sgB (parE (q1, q2) pre) ≤ 1 := by unfold sgB; split <;> omega
        generalize hG : sgB (parE (q1, q2) pre) = G at *
        obtain ⟨hsg1, hsg2⟩ := hsg
        clear hG
        gi_wp2
        refine ⟨hkf.trans ((KeepsOthers.setCell _ _ _).from _), hbut.set (p := ⟨w.heap.size + 1 + 1, 0, none⟩) (by simp) _, ⟨⟨by rw [HO.out, HN.out, ONP.out, HV.out]; rfl, ?_⟩, bR2.other (by omega) _⟩, (hB1.trans hbut).set (p := ⟨w.heap.size + 1 + 1, 0, none⟩) (by simp) _⟩
        have hq2 := bS2.set (.int .i64 (-G))
        rw [HS.out, HP.out]
        have : sgB (parE (q1, q2) pre != true) = -G := by rw [HG.out]; cases parE (q1, q2) pre <;> rfl
        rw [this]
        exact hq2
    · have HV := Lib.hid hv
      gi_wp2_with fail
      refine ⟨trivial, ?_⟩
      refine (CallsIn.inRound ll (callsIn_wide.2 (pon_c _ _ _ _ _ _ _ hq hxa hxb))).mono ?_
      rintro e w1 ⟨rfl, hb1⟩
      have hs1 := hb1.size
      have bR2 := bxd_below bR1 hb1 zr
      have kR := bR2.cell
      have fR := bR2.frozen
      have hbut : But [w.heap.size + 1, w.heap.size + 1 + 1] (w.heap.size + 4) W w1 := But.of_below hb1 (by omega)
      have hkf := (keeps_of_below hb1).from W0.heap.size
      clear hb1
      gi_wp2
      exact ⟨hkf.trans ((KeepsOthers.setCell _ _ _).from _), ⟨⟨rfl, by rw [HO.out, ONP.out, HV.out]; simp⟩, bR2.set _⟩, (hB1.trans hbut).set (p := ⟨w.heap.size + 1, 0, none⟩) (by simp) _⟩
  case done =>
    rintro D ys W hD rfl ⟨⟨⟨hon, bS1⟩, bR1⟩, hB1⟩ hK
    have kS := bS1.cell
    have kR := bR1.cell
    have fR := bR1.frozen
    have HN := Lib.hid hon
    clear hon
    have HX := Lib.hid (show siE (q1, q2) (eds l hl) = sgB (parE (q1, q2) (eds l hl)) by unfold siE sgB; rw [HN.out]; simp)
    generalize hG : sgB (parE (q1, q2) (eds l hl)) = G at *
    clear hG
    gi_wp2
    have hK' := (KeepsOthers.setCell W ⟨w.heap.size + 1, 0, none⟩ (.int .i64 G)).same D _ hK rfl
    refine ⟨by simp, .inl ⟨_, _, rfl, run_takeDeferred hK', ?_⟩⟩
    have hc5 := cell_kept (bR1.set (.int .i64 G)).cell (grownBy_putObj' _ D (.deferred none)) (fun r e => by cases e; exact ⟨_, hK', rfl⟩)
    refine ⟨(.int .i64 G), ?_, by rw [HX.out], ?_⟩
    · simp [results, Try.f25, go_sem, hc5]
    · exact (hB0.trans ((hB1.below (by omega) (by simp; omega)).setCell (p := ⟨w.heap.size + 1, 0, none⟩) (by simp) _)).trans (belowK_b (w := w) (Nat.le_refl _) _ D _ _ (by omega) hK' rfl rfl)
  case stop =>
    rintro D c pre W hD hpre ⟨⟨⟨rfl, hin⟩, bR1⟩, hB1⟩ hK
    gi_wp2
    refine ⟨by simp, .inl ⟨_, _, rfl, run_takeDeferred hK, ?_⟩⟩
    have hc5 := cell_kept bR1.cell (grownBy_putObj' _ D (.deferred none)) (fun r e => by cases e; exact ⟨_, hK, rfl⟩)
    refine ⟨(.int .i64 0), ?_, by unfold siE; rw [onE_mono hpre hin]; rfl, ?_⟩
    · simp [results, Try.f25, go_sem, hc5]
    · exact (hB0.trans (hB1.below (by omega) (by simp; omega))).trans (belowK_b (w := w) (Nat.le_refl _) _ D _ _ (by omega) hK rfl rfl)

end Go.Proofs.Ytphcmdmfjhjidaa.Po
