/- PolJ: disc. -/
import Derived.Test.YtphcmdmfjhjidaaPolI
import Derived.Test.YtphcmdmfjhjidaaRows
import Derived.RangeFuncNested
import Derived.RangeFuncBound
import Derived.RangeFuncCalls
import Derived.RangeFuncLeaves
import Derived.Shelf.Abstract
import Derived.Shelf.RegionOpen
import Derived.WalkKit
import Derived.OwnWalkIn
import Derived.TacticsInMore
import Derived.LoopNIn
import Derived.LoopIn
import Derived.Outline
import Derived.IntWalk
import Derived.Lib.Hide
import Derived.BigRegion
import Derived.Deep.RegionWith
namespace Go.Proofs.Ytphcmdmfjhjidaa.Po
open Go.RowKit Go.Shelf
set_option linter.unusedSimpArgs false
set_option linter.unusedVariables false
attribute [local go_sem] Oper.semAt_some

theorem box2_below {W W' : World} {B m : Nat} {t : TypeId} {p : Pt} (h : Box2 W B t p) (hb : Below m W W') (hm : B < m) : Box2 W' B t p := (hb.block B hm).trans h
def neP (q a b : Pt) (r : Int) : Bool := nearB q.1 q.2 a.1 a.2 b.1 b.2 r
def apP (q a b : Pt) (r : Int) : Bool := decide (0 ≤ cmpDist q.1 q.2 a.1 a.2 b.1 b.2 r)
/-- An edge that does not matter to a disc. -/
def diB (q : Pt) (r : Int) (out : Bool) (c d : Pt) : Bool := apP q c d r && !(out && neP q c d r)
def diE (q : Pt) (r : Int) (out : Bool) (es : List Ed) : Bool := es.all fun e => diB q r out e.1.1 e.1.2
theorem diE_snoc (q : Pt) (r : Int) (out : Bool) (es : List Ed) (x : Ed) : diE q r out (es ++ [x]) = (diE q r out es && diB q r out x.1.1 x.1.2) := by simp [diE]
theorem diE_mono {q : Pt} {r : Int} {out : Bool} {es fs : List Ed} (h : es <+: fs) (ho : diE q r out es = false) : diE q r out fs = false := by
  obtain ⟨gs, rfl⟩ := h
  unfold diE at *
  rw [List.all_append, ho]
  rfl
def diV (all out : Bool) : Int := if all = true then (if out = true then -1 else 1) else 0
def diL (l : List Pt) (q : Pt) (r : Int) : Int := diV ((List.range l.length).all fun i => diB q r (decide (siL q l < 0)) (gp l i) (nx l i)) (decide (siL q l < 0))
theorem diL_eq (l : List Pt) (q : Pt) (r : Int) (hl : okL l = true) : diV (diE q r (decide (siL q l < 0)) (eds l hl)) (decide (siL q l < 0)) = diL l q r := by
  unfold diE diL eds upto
  rw [List.all_map]
  rfl

set_option maxRecDepth 100000 in
set_option maxHeartbeats 8000000 in
theorem disc_in (n : Nat) (hn : 6 ≤ n) (b off cap : Nat) (l : List Pt) (q1 q2 r : Int) (hl : okL l = true) (hq : ok q1 q2) (hd : okd r) (h24 : l.length ≤ 24) (h0l : 0 < l.length) (w : World) (hc : Row w b off l) :
    CallsIn Fence.wide n Try.prog 31 #[.slice (some ⟨b, off, none⟩) l.length cap, (.agg #[.int .i64 q1, .int .i64 q2]), (.int .i64 r)] w fun e W' => e = .returned (.int .i64 (diV (diE (q1, q2) r (decide (siL (q1, q2) l < 0)) (eds l hl)) (decide (siL (q1, q2) l < 0)))) ∧ Below w.heap.size w W' := by
  have h1 : 1 ≤ n := by omega
  have hbl := hc.lt h0l
  refine callsIn_of_wp_marks Try.func31 rfl trivial ?_ rfl
  simp only [Try.ntmps31, List.size_toArray, List.length_cons, List.length_nil, Nat.reduceAdd, Nat.reduceSub, Array.replicate_succ, Array.replicate_zero, List.push_toArray, List.append_toArray, List.nil_append, List.cons_append]
  gi_wp2_with fail
  refine ⟨trivial, ?_⟩
  obtain ⟨Wp, hWp⟩ : ∃ Wp, (((w.alloc (.cells #[(.int .i64 q1), (.int .i64 q2)] 28)).alloc (.cells #[(.int .i64 r)] 3)).alloc (.cells #[(.int .i64 0)] 3)) = Wp := ⟨_, rfl⟩
  have bQ : Box2 Wp (w.heap.size) 28 (q1, q2) := by
    have := ((Box2.new w 28 (q1, q2)).alloc (.cells #[(.int .i64 r)] 3)).alloc (.cells #[(.int .i64 0)] 3)
    rw [← hWp]; exact this
  have bD : Boxed Wp (w.heap.size + 1) 3 ((.int .i64 r)) := by
    have := (Boxed.new (w.alloc (.cells #[(.int .i64 q1), (.int .i64 q2)] 28)) 3 ((.int .i64 r))).alloc (.cells #[(.int .i64 0)] 3)
    rw [World.size_alloc] at this; rw [← hWp]; exact this
  have bR : Boxed Wp (w.heap.size + 1 + 1) 3 ((.int .i64 0)) := by
    have := Boxed.new ((w.alloc (.cells #[(.int .i64 q1), (.int .i64 q2)] 28)).alloc (.cells #[(.int .i64 r)] 3)) 3 ((.int .i64 0))
    rw [World.size_alloc, World.size_alloc] at this; rw [← hWp]; exact this
  have hBWp : Below w.heap.size w Wp := by rw [← hWp]; exact ((((Below.refl _ w).alloc (Nat.le_refl _) _).alloc (by simp <;> omega) _).alloc (by simp <;> omega) _)
  have hszWp : Wp.heap.size = w.heap.size + 3 := by rw [← hWp]; simp
  rw [hWp]
  clear hWp
  refine (callsIn_wide.2 (lacks_c b off cap l _ _ _ hl hq h24 h0l (hc.below hbl hBWp))).mono ?_
  rintro e w1 ⟨rfl, hb1⟩
  have hs1 := hb1.size
  generalize hO : decide (siL (q1, q2) l < 0) = O at *
  have HOO := Lib.hid hO
  clear hO
  gi_wp2_with (refine ⟨trivial, ?_⟩; gi_at_call 42; refine (edges_in (n - 1) _ _ _ _).mono ?_; rintro e w' ⟨rfl, rfl⟩)
  obtain ⟨W0, hW0⟩ : ∃ W0, ((w1.alloc (.cells #[.bool O] 4)).alloc (.cells #[.slice (some ⟨b, off, none⟩) l.length cap] 53)) = W0 := ⟨_, rfl⟩
  have bO : Boxed W0 (w1.heap.size) 4 (.bool O) := by
    have := (Boxed.new w1 4 (.bool O)).alloc (.cells #[.slice (some ⟨b, off, none⟩) l.length cap] 53)
    rw [← hW0]; exact this
  have bE : Boxed W0 (w1.heap.size + 1) 53 (.slice (some ⟨b, off, none⟩) l.length cap) := by
    have := Boxed.new (w1.alloc (.cells #[.bool O] 4)) 53 (.slice (some ⟨b, off, none⟩) l.length cap)
    rw [World.size_alloc] at this; rw [← hW0]; exact this
  have hBW0 : Below w1.heap.size w1 W0 := by rw [← hW0]; exact (((Below.refl _ w1).alloc (Nat.le_refl _) _).alloc (by simp <;> omega) _)
  have hszW0 : W0.heap.size = w1.heap.size + 2 := by rw [← hW0]; simp
  rw [hW0]
  clear hW0
  have hbp0 : Below Wp.heap.size Wp W0 := bstep hb1 hBW0
  have hB0 : Below w.heap.size w W0 := bstep hBWp hbp0
  have bQ0 := box2_below bQ hbp0 (by omega)
  have bD0 := bxd_below bD hbp0 (by omega)
  have bR0 := bxd_below bR hbp0 (by omega)
  have hr0 := hc.below hbl hB0
  refine wpIn_rangeFunc_ownH rfl h1 (gf := 68) (lb := #[.pointer (some ⟨w1.heap.size + 1, 0, none⟩)]) rfl trivial (enters_of Try.func68 (by kernel_rfl) rfl)
    (edges_stops (n - 1) (by omega) (w1.heap.size + 1) (w1.heap.size + 2) b off cap l hl h24 h0l (by omega) [w.heap.size + 1 + 1] (by simp only [List.mem_cons, List.not_mem_nil, or_false]; omega) (by simp only [List.mem_cons, List.not_mem_nil, or_false]; omega) W0 bE.cell (by omega) (by omega) hr0) but_t (but_b (by omega)) (Below.refl _ _) (fun _ => rfl)
    (fun pre W => (diE (q1, q2) r O pre = true ∧ Boxed W (w.heap.size + 1 + 1) 3 (.int .i64 0)) ∧ But [w.heap.size + 1 + 1] (w1.heap.size + 2) W0 W)
    (fun c pre W => ((c = .ret ∧ diE (q1, q2) r O pre = false) ∧ Boxed W (w.heap.size + 1 + 1) 3 (.int .i64 0)) ∧ But [w.heap.size + 1 + 1] (w1.heap.size + 2) W0 W)
    (OwnFrom.and (OwnFrom.and (ownFrom_pure _ _) (Own.from (boxed_own _ _ (fun _ => (.int .i64 0))) _)) (ownFrom_but (by omega) (by omega)))
    (fun c => OwnFrom.and (OwnFrom.and (ownFrom_pure _ _) (Own.from (boxed_own _ _ (fun _ => (.int .i64 0))) _)) (ownFrom_but (by omega) (by omega)))
    ⟨⟨rfl, bR0⟩, But.refl _ _ _⟩
    (fun x a' W => ∃ Bx By, Box2 W Bx 28 x.1.1 ∧ Box2 W By 28 x.1.2 ∧ (w1.heap.size + 2 ≤ Bx ∧ w1.heap.size + 2 ≤ By) ∧ a' = { tmps := #[.slice (some ⟨b, off, none⟩) l.length cap, (.agg #[.int .i64 q1, .int .i64 q2]), (.int .i64 r), undef, .pointer (some ⟨w.heap.size, 0, none⟩), .pointer (some ⟨w.heap.size + 1, 0, none⟩), .pointer (some ⟨w.heap.size + 1 + 1, 0, none⟩), .pointer (some ⟨w1.heap.size, 0, none⟩), .pointer (some ⟨Bx, 0, none⟩), .pointer (some ⟨By, 0, none⟩), undef, undef, undef, undef, .slice (some ⟨b, off, none⟩) l.length cap, (.agg #[.int .i64 q1, .int .i64 q2]), .bool O, .slice (some ⟨b, off, none⟩) l.length cap, .func (.func 68) #[] #[.pointer (some ⟨w1.heap.size + 1, 0, none⟩)], .agg #[(.int .i64 (x.1.1.1)), (.int .i64 (x.1.1.2))], .agg #[(.int .i64 (x.1.2.1)), (.int .i64 (x.1.2.2))], undef, undef, undef, undef, undef, undef, undef, undef, undef, undef, undef, undef, undef, undef, undef, undef, undef, undef, undef, undef, undef, undef, undef, undef, undef], defers := [] })
    (fun x a' _ X Y row hs hg hr => by
      obtain ⟨Bx, By, e1, e2, e4, e3⟩ := hs
      exact ⟨Bx, By, box2_own Bx _ (fun (_ : Unit) => x.1.1) () X Y row e1 hg (fun r e => (hr r e).2), box2_own By _ (fun (_ : Unit) => x.1.2) () X Y row e2 hg (fun r e => (hr r e).2), e4, e3⟩)
    ?assign ?body ?done ?stop
  case assign =>
    rintro ll pre x W K ⟨⟨hon, bR1⟩, hB1⟩ hK
    have hs1 := hB1.size
    unfold encE
    gi_wp2
    obtain ⟨t1, t2, t3, t4⟩ := two_boxes W 28 x.1.1 x.1.2 [w.heap.size + 1 + 1] (w1.heap.size + 2) W0.heap.size (by omega)
    exact hK _ _ t1 t2 ⟨⟨hon, (bR1.alloc _).alloc _⟩, hB1.trans t2⟩ ⟨_, _, t3, t4, by omega, rfl⟩
  case body =>
    rintro ll pre ⟨⟨⟨a1, a2⟩, b1, b2⟩, ha, hb⟩ a' W hll ⟨rr, hr⟩ ⟨⟨hon, bR1⟩, hB1⟩ ⟨Bx, By, bx, by', ⟨hBx, hBy⟩, rfl⟩ hlt
    have hso := diE_snoc (q1, q2) r O pre ⟨((a1, a2), b1, b2), ha, hb⟩
    have hxa : ok a1 a2 := ha
    have hxb : ok b1 b2 := hb
    have hsW := hB1.size
    have bQ1 := hB1.box2 (by omega) (by simp only [List.mem_cons, List.not_mem_nil, or_false]; omega) bQ0
    have bD1 := hB1.boxed (by omega) (by simp only [List.mem_cons, List.not_mem_nil, or_false]; omega) bD0
    have bO1 := hB1.boxed (by omega) (by simp only [List.mem_cons, List.not_mem_nil, or_false]; omega) bO
    have kq0 := bQ1.c0
    have kq1 := bQ1.c1
    have kd := bD1.cell
    have ko := bO1.cell
    have k2 := bx.c0
    have k3 := bx.c1
    have k4 := by'.c0
    have k5 := by'.c1
    dsimp only at kq0 kq1 k2 k3 k4 k5
    have lx := bx.lt
    have ly := by'.lt
    have HO := Lib.hid hso
    have HN := Lib.hid hon
    clear hso hon
    have h1' : 1 ≤ n - 1 - 1 := by omega
    have zq : w.heap.size < W.heap.size := by omega
    have zd : w.heap.size + 1 < W.heap.size := by omega
    have zr : w.heap.size + 1 + 1 < W.heap.size := by omega
    have zo : w1.heap.size < W.heap.size := by omega
    gi_wp2_with fail
    refine ⟨trivial, ?_⟩
    refine (CallsIn.inRound ll (callsIn_wide.2 (Near_ok _ _ _ _ _ _ _ _ hq hxa hxb hd))).mono ?_
    rintro e w2 ⟨rfl, hbw2⟩
    obtain ⟨hcq, hfq⟩ := bcell hbw2
    have hsq := hbw2.size
    replace kq0 : w2.cell? ⟨w.heap.size, 0, none⟩ = some (.int .i64 q1) := (hcq _ _ zq).trans kq0
    replace kq1 : w2.cell? ⟨w.heap.size, 1, none⟩ = some (.int .i64 q2) := (hcq _ _ zq).trans kq1
    replace kd : w2.cell? ⟨w.heap.size + 1, 0, none⟩ = some (.int .i64 r) := (hcq _ _ zd).trans kd
    replace ko : w2.cell? ⟨w1.heap.size, 0, none⟩ = some (.bool O) := (hcq _ _ zo).trans ko
    replace k2 : w2.cell? ⟨Bx, 0, none⟩ = some (.int .i64 a1) := (hcq _ _ lx).trans k2
    replace k3 : w2.cell? ⟨Bx, 1, none⟩ = some (.int .i64 a2) := (hcq _ _ lx).trans k3
    replace k4 : w2.cell? ⟨By, 0, none⟩ = some (.int .i64 b1) := (hcq _ _ ly).trans k4
    replace k5 : w2.cell? ⟨By, 1, none⟩ = some (.int .i64 b2) := (hcq _ _ ly).trans k5
    clear hcq hfq
    have hsz2 := hbw2.size
    gi_wp2_with fail
    refine ⟨trivial, ?_⟩
    refine (CallsIn.inRound ll (callsIn_wide.2 (Apart_ok _ _ _ _ _ _ _ _ hq hxa hxb hd))).mono ?_
    rintro e w3 ⟨rfl, hbw3⟩
    have hb13 : Below W.heap.size W w3 := bstep hbw2 hbw3
    obtain ⟨hcq, hfq⟩ := bcell hbw3
    have hsq := hbw3.size
    replace kq0 : w3.cell? ⟨w.heap.size, 0, none⟩ = some (.int .i64 q1) := (hcq _ _ (Nat.lt_of_lt_of_le zq hsz2)).trans kq0
    replace kq1 : w3.cell? ⟨w.heap.size, 1, none⟩ = some (.int .i64 q2) := (hcq _ _ (Nat.lt_of_lt_of_le zq hsz2)).trans kq1
    replace kd : w3.cell? ⟨w.heap.size + 1, 0, none⟩ = some (.int .i64 r) := (hcq _ _ (Nat.lt_of_lt_of_le zd hsz2)).trans kd
    replace ko : w3.cell? ⟨w1.heap.size, 0, none⟩ = some (.bool O) := (hcq _ _ (Nat.lt_of_lt_of_le zo hsz2)).trans ko
    replace k2 : w3.cell? ⟨Bx, 0, none⟩ = some (.int .i64 a1) := (hcq _ _ (Nat.lt_of_lt_of_le lx hsz2)).trans k2
    replace k3 : w3.cell? ⟨Bx, 1, none⟩ = some (.int .i64 a2) := (hcq _ _ (Nat.lt_of_lt_of_le lx hsz2)).trans k3
    replace k4 : w3.cell? ⟨By, 0, none⟩ = some (.int .i64 b1) := (hcq _ _ (Nat.lt_of_lt_of_le ly hsz2)).trans k4
    replace k5 : w3.cell? ⟨By, 1, none⟩ = some (.int .i64 b2) := (hcq _ _ (Nat.lt_of_lt_of_le ly hsz2)).trans k5
    clear hcq hfq
    have bR2 := bxd_below bR1 hb13 zr
    have kR := bR2.cell
    have fR := bR2.frozen
    have hbut : But [w.heap.size + 1 + 1] (w1.heap.size + 2) W w3 := But.of_below hb13 (by omega)
    have hkf := (keeps_of_below hb13).from W0.heap.size
    have HW := Lib.hid (show diB (q1, q2) r O (a1, a2) (b1, b2) = (decide (0 ≤ cmpDist q1 q2 a1 a2 b1 b2 r) && !(O && nearB q1 q2 a1 a2 b1 b2 r)) from rfl)
    clear hbw2 hbw3
    cases hap : decide (0 ≤ cmpDist q1 q2 a1 a2 b1 b2 r)
    all_goals
      cases hne : nearB q1 q2 a1 a2 b1 b2 r
      all_goals
        cases O
        all_goals
          have HA := Lib.hid hap
          have HE := Lib.hid hne
          gi_wp2
          first
          | exact ⟨hkf, hbut, ⟨by rw [HO.out, HN.out, HW.out, HA.out, HE.out]; rfl, bR2⟩, hB1.trans hbut⟩
          | exact ⟨hkf.trans ((KeepsOthers.setCell _ _ _).from _), ⟨⟨rfl, by rw [HO.out, HW.out, HA.out, HE.out]; simp⟩, bR2.set _⟩, (hB1.trans hbut).set (p := ⟨w.heap.size + 1 + 1, 0, none⟩) (by simp) _⟩
  case done =>
    rintro D ys W hD rfl ⟨⟨hon, bR1⟩, hB1⟩ hK
    have hsW := hB1.size
    have bO1 := hB1.boxed (by omega) (by simp only [List.mem_cons, List.not_mem_nil, or_false]; omega) bO
    have ko := bO1.cell
    have HN := Lib.hid hon
    clear hon
    have kR := bR1.cell
    have fR := bR1.frozen
    cases O
    · gi_wp2
      have hK' := (KeepsOthers.setCell W ⟨w.heap.size + 1 + 1, 0, none⟩ (.int .i64 1)).same D _ hK rfl
      refine ⟨by simp, .inl ⟨_, _, rfl, run_takeDeferred hK', ?_⟩⟩
      have hc5 := cell_kept (bR1.set (.int .i64 1)).cell (grownBy_putObj' _ D (.deferred none)) (fun r e => by cases e; exact ⟨_, hK', rfl⟩)
      refine ⟨(.int .i64 1), ?_, by rw [HOO.out, HN.out]; rfl, ?_⟩
      · simp [results, Try.f31, go_sem, hc5]
      · exact (hB0.trans ((hB1.below (by omega) (by simp; omega)).setCell (p := ⟨w.heap.size + 1 + 1, 0, none⟩) (by simp; omega) _)).trans (belowK_b (w := w) (Nat.le_refl _) _ D _ _ (by omega) hK' rfl rfl)
    · gi_wp2
      have hK' := (KeepsOthers.setCell W ⟨w.heap.size + 1 + 1, 0, none⟩ (.int .i64 (-1))).same D _ hK rfl
      refine ⟨by simp, .inl ⟨_, _, rfl, run_takeDeferred hK', ?_⟩⟩
      have hc5 := cell_kept (bR1.set (.int .i64 (-1))).cell (grownBy_putObj' _ D (.deferred none)) (fun r e => by cases e; exact ⟨_, hK', rfl⟩)
      refine ⟨(.int .i64 (-1)), ?_, by rw [HOO.out, HN.out]; rfl, ?_⟩
      · simp [results, Try.f31, go_sem, hc5]
      · exact (hB0.trans ((hB1.below (by omega) (by simp; omega)).setCell (p := ⟨w.heap.size + 1 + 1, 0, none⟩) (by simp; omega) _)).trans (belowK_b (w := w) (Nat.le_refl _) _ D _ _ (by omega) hK' rfl rfl)
  case stop =>
    rintro D c pre W hD hpre ⟨⟨⟨rfl, hin⟩, bR1⟩, hB1⟩ hK
    gi_wp2
    refine ⟨by simp, .inl ⟨_, _, rfl, run_takeDeferred hK, ?_⟩⟩
    have hc5 := cell_kept bR1.cell (grownBy_putObj' _ D (.deferred none)) (fun r e => by cases e; exact ⟨_, hK, rfl⟩)
    refine ⟨(.int .i64 0), ?_, by rw [HOO.out, diE_mono hpre hin]; rfl, ?_⟩
    · simp [results, Try.f31, go_sem, hc5]
    · exact (hB0.trans (hB1.below (by omega) (by simp; omega))).trans (belowK_b (w := w) (Nat.le_refl _) _ D _ _ (by omega) hK rfl rfl)

theorem disc_c (b off cap : Nat) (l : List Pt) (q1 q2 r : Int) (w : World) (hl : okL l = true) (hq : ok q1 q2) (hd : okd r) (h24 : l.length ≤ 24) (h0l : 0 < l.length) (hc : Row w b off l) :
    Calls Try.prog 31 #[.slice (some ⟨b, off, none⟩) l.length cap, (.agg #[.int .i64 q1, .int .i64 q2]), (.int .i64 r)] w (Ret w (.int .i64 (diL l (q1, q2) r))) := by
  refine (callsIn_wide.1 (disc_in 6 (Nat.le_refl _) b off cap l q1 q2 r hl hq hd h24 h0l w hc)).mono ?_
  rintro e W' ⟨rfl, hb⟩
  exact ⟨by rw [diL_eq], hb⟩

end Go.Proofs.Ytphcmdmfjhjidaa.Po
