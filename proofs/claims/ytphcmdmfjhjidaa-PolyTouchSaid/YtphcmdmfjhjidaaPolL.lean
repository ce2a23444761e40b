/- PolL: holds. -/
import Derived.Test.YtphcmdmfjhjidaaPolK
import Derived.Test.YtphcmdmfjhjidaaRows
import Derived.RangeFuncNested
import Derived.RangeFuncBound
import Derived.RangeFuncCalls
import Derived.RangeFuncLeaves
import Derived.Shelf.Abstract
import Derived.Shelf.RegionOpen
import Derived.WalkKit
import Derived.OwnWalkIn
import Derived.TacticsInMore
import Derived.LoopNIn
import Derived.LoopIn
import Derived.Outline
import Derived.IntWalk
import Derived.Lib.Hide
import Derived.BigRegion
import Derived.Deep.RegionWith
import Derived.Deep.RegionHeld3
namespace Go.Proofs.Ytphcmdmfjhjidaa.Po
open Go.RowKit Go.Shelf
set_option linter.unusedSimpArgs false
set_option linter.unusedVariables false
attribute [local go_sem] Oper.semAt_some

/-- A corner of m is outside of l. -/
def lackL (l m : List Pt) : Bool := (List.range m.length).any fun j => decide (siL (gp m j) l < 0)
def IdxPost (w : World) (x : Bool) (e : Ending) (w' : World) : Prop := ∃ r : Int, e = .returned (.int .i64 r) ∧ decide (0 ≤ r) = x ∧ Below w.heap.size w w'

set_option maxRecDepth 100000 in
set_option maxHeartbeats 3200000 in
theorem index_c (b off cap b2 off2 cap2 : Nat) (l m : List Pt) (w : World) (hl : okL l = true) (h24 : l.length ≤ 24) (h0l : 0 < l.length) (hm : okL m = true) (m24 : m.length ≤ 24) (h0m : 0 < m.length) (hc : Row w b off l) (hcm : Row w b2 off2 m) :
    Calls Try.prog 69 #[.slice (some ⟨b2, off2, none⟩) m.length cap2, .func (.func 50) #[.slice (some ⟨b, off, none⟩) l.length cap] #[]] w (IdxPost w (lackL l m)) := by
  have hbl := hc.lt h0l
  have hbm := hcm.lt h0m
  go_enter Try.func69, Try.ntmps69
  go_wp2
  go_loopw [8] (fun i wr => ∃ k : Nat, i = (.int .i64 k) ∧ k ≤ m.length ∧ (∀ j, j < k → 0 ≤ siL (gp m j) l) ∧ Below w.heap.size w wr) (fun i _ => m.length - (intOf i).toNat)
  case atStart => exact ⟨0, rfl, by omega, fun i hi => by omega, Below.refl _ _⟩
  case round =>
    obtain ⟨k, rfl, hk, hall, hbel⟩ := hrel
    have HA := Lib.hid hall
    clear hall
    by_cases hlt : k < m.length
    · have hrr := hcm.below hbm hbel
      have hpr := hc.below hbl hbel
      obtain ⟨c1, c2⟩ := hrr k hlt
      have HR := Lib.hid hc
      have HQ := Lib.hid hcm
      have HP := Lib.hid hpr
      clear hc hcm hrr hpr
      have o1 := okL_gp hm k
      unfold okP at o1
      cases hv : decide (siL (gp m k) l < 0)
      · have HV := Lib.hid hv
        go_wp2_with fail
        refine Calls.mono (lacks_c b off cap l _ _ _ hl o1 h24 h0l HP.out) ?_
        rintro e w1 ⟨rfl, hb1⟩
        have hB1 : Below w.heap.size w w1 := (by repeat (first | exact Below.refl _ _ | assumption | refine bstep ?_ (by assumption) | refine Below.drew ?_ | refine balloc ?_ _ | refine Below.setCell ?_ (by first | omega | (simp <;> omega)) _))
        go_wp2
        go_roundw
        case rel =>
          refine ⟨k + 1, by go_num, by omega, fun i hi => ?_, hB1⟩
          by_cases hik : i = k
          · subst hik; exact Int.not_lt.1 (of_decide_eq_false HV.out)
          · exact HA.out i (by omega)
        case measure => simp [intOf]; omega
      · have HV := Lib.hid hv
        go_wp2_with fail
        refine Calls.mono (lacks_c b off cap l _ _ _ hl o1 h24 h0l HP.out) ?_
        rintro e w1 ⟨rfl, hb1⟩
        have hB1 : Below w.heap.size w w1 := (by repeat (first | exact Below.refl _ _ | assumption | refine bstep ?_ (by assumption) | refine Below.drew ?_ | refine balloc ?_ _ | refine Below.setCell ?_ (by first | omega | (simp <;> omega)) _))
        go_wp2
        go_ret
        refine ⟨k, rfl, ?_, hB1⟩
        rw [decide_eq_true (by omega)]
        unfold lackL
        exact (List.any_eq_true.2 ⟨k, List.mem_range.2 hlt, HV.out⟩).symm
    · obtain rfl : k = m.length := by omega
      go_wp2
      go_ret
      refine ⟨-1, rfl, ?_, hbel⟩
      have : lackL l m = false := by
        unfold lackL
        rw [List.any_eq_false]
        intro j hj
        simpa using HA.out j (List.mem_range.1 hj)
      rw [this]
      rfl

set_option maxHeartbeats 800000 in
theorem contains_c (b off cap b2 off2 cap2 : Nat) (l m : List Pt) (w : World) (hl : okL l = true) (h24 : l.length ≤ 24) (h0l : 0 < l.length) (hm : okL m = true) (m24 : m.length ≤ 24) (h0m : 0 < m.length) (hc : Row w b off l) (hcm : Row w b2 off2 m) :
    Calls Try.prog 51 #[.slice (some ⟨b2, off2, none⟩) m.length cap2, .func (.func 50) #[.slice (some ⟨b, off, none⟩) l.length cap] #[]] w (Ret w (.bool (lackL l m))) := by
  go_enter Try.func51, Try.ntmps51
  go_wp2_with fail
  refine Calls.mono (index_c b off cap b2 off2 cap2 l m _ hl h24 h0l hm m24 h0m hc hcm) ?_
  rintro e w1 ⟨r, rfl, hr, hb1⟩
  have HR := Lib.hid hr
  clear hr
  go_wp2
  all_goals
    go_ret
    refine ret_bv ?_ (by repeat (first | exact Below.refl _ _ | assumption | refine bstep ?_ (by assumption) | refine Below.drew ?_ | refine balloc ?_ _ | refine Below.setCell ?_ (by first | omega | (simp <;> omega)) _))
    rw [← HR.out]

def hoE (l : List Pt) (es : List Ed) : Bool := es.all fun e => hwL l e.1.1 e.1.2
theorem hoE_snoc (l : List Pt) (es : List Ed) (x : Ed) : hoE l (es ++ [x]) = (hoE l es && hwL l x.1.1 x.1.2) := by simp [hoE]
theorem hoE_mono {l : List Pt} {es fs : List Ed} (h : es <+: fs) (ho : hoE l es = false) : hoE l fs = false := by
  obtain ⟨gs, rfl⟩ := h
  unfold hoE at *
  rw [List.all_append, ho]
  rfl
def hoL (l m : List Pt) : Bool := !lackL l m && (List.range m.length).all fun j => hwL l (gp m j) (nx m j)
theorem hoL_eq (l m : List Pt) (hm : okL m = true) : (!lackL l m && hoE l (eds m hm)) = hoL l m := by
  unfold hoE hoL eds upto
  rw [List.all_map]
  rfl

set_option maxRecDepth 100000 in
set_option maxHeartbeats 8000000 in
theorem holds_in (n : Nat) (hn : 8 ≤ n) (b off cap b2 off2 cap2 : Nat) (l m : List Pt) (hl : okL l = true) (h24 : l.length ≤ 24) (h0l : 0 < l.length) (hm : okL m = true) (m24 : m.length ≤ 24) (h0m : 0 < m.length) (w : World) (hc : Row w b off l) (hcm : Row w b2 off2 m) :
    CallsIn Fence.wide n Try.prog 30 #[.slice (some ⟨b, off, none⟩) l.length cap, .slice (some ⟨b2, off2, none⟩) m.length cap2] w fun e W' => e = .returned (.bool (!lackL l m && hoE l (eds m hm))) ∧ Below w.heap.size w W' := by
  have h1 : 1 ≤ n := by omega
  have hbl := hc.lt h0l
  have hbm := hcm.lt h0m
  refine callsIn_of_wp_marks Try.func30 rfl trivial ?_ rfl
  simp only [Try.ntmps30, List.size_toArray, List.length_cons, List.length_nil, Nat.reduceAdd, Nat.reduceSub, Array.replicate_succ, Array.replicate_zero, List.push_toArray, List.append_toArray, List.nil_append, List.cons_append]
  gi_wp2_with fail
  refine ⟨trivial, ?_⟩
  obtain ⟨Wp, hWp⟩ : ∃ Wp, ((w.alloc (.cells #[.slice (some ⟨b, off, none⟩) l.length cap] 53)).alloc (.cells #[.bool false] 4)) = Wp := ⟨_, rfl⟩
  have bP : Boxed Wp (w.heap.size) 53 (.slice (some ⟨b, off, none⟩) l.length cap) := by
    have := (Boxed.new w 53 (.slice (some ⟨b, off, none⟩) l.length cap)).alloc (.cells #[.bool false] 4)
    rw [← hWp]; exact this
  have bR : Boxed Wp (w.heap.size + 1) 4 (.bool false) := by
    have := Boxed.new (w.alloc (.cells #[.slice (some ⟨b, off, none⟩) l.length cap] 53)) 4 (.bool false)
    rw [World.size_alloc] at this; rw [← hWp]; exact this
  have hBWp : Below w.heap.size w Wp := by rw [← hWp]; exact (((Below.refl _ w).alloc (Nat.le_refl _) _).alloc (by simp <;> omega) _)
  have hszWp : Wp.heap.size = w.heap.size + 2 := by rw [← hWp]; simp
  rw [hWp]
  clear hWp
  have hcp := hc.below hbl hBWp
  have hcq := hcm.below hbm hBWp
  refine (callsIn_wide.2 (contains_c b off cap b2 off2 cap2 l m _ hl h24 h0l hm m24 h0m hcp hcq)).mono ?_
  rintro e w1 ⟨rfl, hb1⟩
  have hs1 := hb1.size
  have HCP := Lib.hid (hcp.below (by omega) hb1)
  have HCQ := Lib.hid (hcq.below (by omega) hb1)
  have HC := Lib.hid hc
  have HQ := Lib.hid hcm
  clear hcp hcq hc hcm
  cases hk : lackL l m
  · have HK := Lib.hid hk
    have hB1 : Below w.heap.size w w1 := bstep hBWp hb1
    gi_wp2_with (refine ⟨trivial, ?_⟩; gi_at_call 42; refine (edges_in (n - 1) _ _ _ _).mono ?_; rintro e w' ⟨rfl, rfl⟩)
    obtain ⟨W0, hW0⟩ : ∃ W0, (w1.alloc (.cells #[.slice (some ⟨b2, off2, none⟩) m.length cap2] 53)) = W0 := ⟨_, rfl⟩
    have bE : Boxed W0 (w1.heap.size) 53 (.slice (some ⟨b2, off2, none⟩) m.length cap2) := by
      have := Boxed.new w1 53 (.slice (some ⟨b2, off2, none⟩) m.length cap2)
      rw [← hW0]; exact this
    have hBW0 : Below w1.heap.size w1 W0 := by rw [← hW0]; exact ((Below.refl _ w1).alloc (Nat.le_refl _) _)
    have hszW0 : W0.heap.size = w1.heap.size + 1 := by rw [← hW0]; simp
    rw [hW0]
    clear hW0
    have hbp0 : Below Wp.heap.size Wp W0 := bstep hb1 hBW0
    have hB0 : Below w.heap.size w W0 := bstep hBWp hbp0
    have bP0 := bxd_below bP hbp0 (by omega)
    have bR0 := bxd_below bR hbp0 (by omega)
    have hp0 := HCP.out.below (b := b) (by omega) hBW0
    have hr0 := HCQ.out.below (b := b2) (by omega) hBW0
    refine wpIn_rangeFunc_ownH rfl h1 (gf := 68) (lb := #[.pointer (some ⟨w1.heap.size, 0, none⟩)]) rfl trivial (enters_of Try.func68 (by kernel_rfl) rfl)
      (edges_stops (n - 1) (by omega) (w1.heap.size) (w1.heap.size + 1) b2 off2 cap2 m hm m24 h0m (by omega) [w.heap.size + 1] (by simp only [List.mem_cons, List.not_mem_nil, or_false]; omega) (by simp only [List.mem_cons, List.not_mem_nil, or_false]; omega) W0 bE.cell (by omega) (by omega) hr0) but_t (but_b (by omega)) (Below.refl _ _) (fun _ => rfl)
      (fun pre W => (hoE l pre = true ∧ Boxed W (w.heap.size + 1) 4 (.bool false)) ∧ But [w.heap.size + 1] (w1.heap.size + 1) W0 W)
      (fun c pre W => ((c = .ret ∧ hoE l pre = false) ∧ Boxed W (w.heap.size + 1) 4 (.bool false)) ∧ But [w.heap.size + 1] (w1.heap.size + 1) W0 W)
      (OwnFrom.and (OwnFrom.and (ownFrom_pure _ _) (Own.from (boxed_own _ _ (fun _ => Value.bool false)) _)) (ownFrom_but (by omega) (by omega)))
      (fun c => OwnFrom.and (OwnFrom.and (ownFrom_pure _ _) (Own.from (boxed_own _ _ (fun _ => Value.bool false)) _)) (ownFrom_but (by omega) (by omega)))
      ⟨⟨rfl, bR0⟩, But.refl _ _ _⟩
      (fun x a' W => ∃ Bx By, Box2 W Bx 28 x.1.1 ∧ Box2 W By 28 x.1.2 ∧ (w1.heap.size + 1 ≤ Bx ∧ w1.heap.size + 1 ≤ By) ∧ a' = { tmps := #[.slice (some ⟨b, off, none⟩) l.length cap, .slice (some ⟨b2, off2, none⟩) m.length cap2, .pointer (some ⟨w.heap.size, 0, none⟩), undef, .pointer (some ⟨w.heap.size + 1, 0, none⟩), .pointer (some ⟨Bx, 0, none⟩), .pointer (some ⟨By, 0, none⟩), .slice (some ⟨b2, off2, none⟩) m.length cap2, .slice (some ⟨b, off, none⟩) l.length cap, .func (.func 50) #[.slice (some ⟨b, off, none⟩) l.length cap] #[], .bool false, .slice (some ⟨b2, off2, none⟩) m.length cap2, .func (.func 68) #[] #[.pointer (some ⟨w1.heap.size, 0, none⟩)], .agg #[(.int .i64 (x.1.1.1)), (.int .i64 (x.1.1.2))], .agg #[(.int .i64 (x.1.2.1)), (.int .i64 (x.1.2.2))], undef, undef, undef, undef, undef], defers := [] })
      (fun x a' _ X Y row hs hg hr => by
        obtain ⟨Bx, By, e1, e2, e4, e3⟩ := hs
        exact ⟨Bx, By, box2_own Bx _ (fun (_ : Unit) => x.1.1) () X Y row e1 hg (fun r e => (hr r e).2), box2_own By _ (fun (_ : Unit) => x.1.2) () X Y row e2 hg (fun r e => (hr r e).2), e4, e3⟩)
      ?assign ?body ?done ?stop
    case assign =>
      rintro ll pre x W K ⟨⟨hon, bR1⟩, hB2⟩ hK
      have hs1 := hB2.size
      unfold encE
      gi_wp2
      obtain ⟨t1, t2, t3, t4⟩ := two_boxes W 28 x.1.1 x.1.2 [w.heap.size + 1] (w1.heap.size + 1) W0.heap.size (by omega)
      exact hK _ _ t1 t2 ⟨⟨hon, (bR1.alloc _).alloc _⟩, hB2.trans t2⟩ ⟨_, _, t3, t4, by omega, rfl⟩
    case body =>
      rintro ll pre ⟨⟨⟨a1, a2⟩, d1, d2⟩, ha, hd⟩ a' W hll ⟨rr, hr⟩ ⟨⟨hon, bR1⟩, hB2⟩ ⟨Bx, By, bx, by', ⟨hBx, hBy⟩, rfl⟩ hlt
      have hso := hoE_snoc l pre ⟨((a1, a2), d1, d2), ha, hd⟩
      have hxa : ok a1 a2 := ha
      have hxb : ok d1 d2 := hd
      have hsW := hB2.size
      have bP1 := hB2.boxed (by omega) (by simp only [List.mem_cons, List.not_mem_nil, or_false]; omega) bP0
      have kp := bP1.cell
      have k2 := bx.c0
      have k3 := bx.c1
      have k4 := by'.c0
      have k5 := by'.c1
      dsimp only at k2 k3 k4 k5
      have HO := Lib.hid hso
      have HN := Lib.hid hon
      have HRW := Lib.hid (hB2.row (b := b) (by omega) (by simp only [List.mem_cons, List.not_mem_nil, or_false]; omega) hp0)
      clear hso hon
      have h1' : 1 ≤ n - 1 - 1 := by omega
      have zr : w.heap.size + 1 < W.heap.size := by omega
      gi_wp2_with fail
      refine ⟨trivial, ?_⟩
      refine (CallsIn.inRound ll (callsIn_wide.2 (holdsWay_c b off cap l _ _ _ _ _ hl hxa hxb h24 h0l HRW.out))).mono ?_
      rintro e w2 ⟨rfl, hb2⟩
      have hs2 := hb2.size
      have bR2 := bxd_below bR1 hb2 zr
      have kR := bR2.cell
      have fR := bR2.frozen
      have hbut : But [w.heap.size + 1] (w1.heap.size + 1) W w2 := But.of_below hb2 (by omega)
      have hkf := (keeps_of_below hb2).from W0.heap.size
      clear hb2
      cases hv : hwL l (a1, a2) (d1, d2)
      · have HV := Lib.hid hv
        gi_wp2
        exact ⟨hkf.trans ((KeepsOthers.setCell _ _ _).from _), ⟨⟨rfl, by rw [HO.out, HV.out]; simp⟩, bR2.set _⟩, (hB2.trans hbut).set (p := ⟨w.heap.size + 1, 0, none⟩) (by simp) _⟩
      · have HV := Lib.hid hv
        gi_wp2
        exact ⟨hkf, hbut, ⟨by rw [HO.out, HN.out, HV.out]; rfl, bR2⟩, hB2.trans hbut⟩
    case done =>
      rintro D ys W hD rfl ⟨⟨hon, bR1⟩, hB2⟩ hK
      have HN := Lib.hid hon
      clear hon
      have kR := bR1.cell
      have fR := bR1.frozen
      gi_wp2
      have hK' := (KeepsOthers.setCell W ⟨w.heap.size + 1, 0, none⟩ (.bool true)).same D _ hK rfl
      refine ⟨by simp, .inl ⟨_, _, rfl, run_takeDeferred hK', ?_⟩⟩
      have hc5 := cell_kept (bR1.set (.bool true)).cell (grownBy_putObj' _ D (.deferred none)) (fun r e => by cases e; exact ⟨_, hK', rfl⟩)
      refine ⟨.bool true, ?_, by rw [HN.out, HK.out]; rfl, ?_⟩
      · simp [results, Try.f30, go_sem, hc5]
      · exact (hB0.trans ((hB2.below (by omega) (by simp)).setCell (p := ⟨w.heap.size + 1, 0, none⟩) (by simp) _)).trans (belowK_b (w := w) (Nat.le_refl _) _ D _ _ (by omega) hK' rfl rfl)
    case stop =>
      rintro D c pre W hD hpre ⟨⟨⟨rfl, hin⟩, bR1⟩, hB2⟩ hK
      gi_wp2
      refine ⟨by simp, .inl ⟨_, _, rfl, run_takeDeferred hK, ?_⟩⟩
      have hc5 := cell_kept bR1.cell (grownBy_putObj' _ D (.deferred none)) (fun r e => by cases e; exact ⟨_, hK, rfl⟩)
      refine ⟨.bool false, ?_, by rw [hoE_mono hpre hin]; simp, ?_⟩
      · simp [results, Try.f30, go_sem, hc5]
      · exact (hB0.trans (hB2.below (by omega) (by simp))).trans (belowK_b (w := w) (Nat.le_refl _) _ D _ _ (by omega) hK rfl rfl)
  · have HK := Lib.hid hk
    have bR1 := bxd_below bR hb1 (by omega)
    have kR := bR1.cell
    have fR := bR1.frozen
    have hB1 : Below w.heap.size w w1 := bstep hBWp hb1
    gi_wp2
    have hc5 := (bR1.set (.bool false)).cell
    refine ⟨.bool false, ?_, by rw [HK.out]; rfl, hB1.setCell (p := ⟨w.heap.size + 1, 0, none⟩) (by simp) _⟩
    simp [results, Try.f30, go_sem, hc5]

theorem holds_c (b off cap b2 off2 cap2 : Nat) (l m : List Pt) (w : World) (hl : okL l = true) (h24 : l.length ≤ 24) (h0l : 0 < l.length) (hm : okL m = true) (m24 : m.length ≤ 24) (h0m : 0 < m.length) (hc : Row w b off l) (hcm : Row w b2 off2 m) :
    Calls Try.prog 30 #[.slice (some ⟨b, off, none⟩) l.length cap, .slice (some ⟨b2, off2, none⟩) m.length cap2] w (Ret w (.bool (hoL l m))) := by
  refine (callsIn_wide.1 (holds_in 8 (Nat.le_refl _) b off cap b2 off2 cap2 l m hl h24 h0l hm m24 h0m w hc hcm)).mono ?_
  rintro e W' ⟨rfl, hb⟩
  exact ⟨by rw [hoL_eq], hb⟩

end Go.Proofs.Ytphcmdmfjhjidaa.Po
