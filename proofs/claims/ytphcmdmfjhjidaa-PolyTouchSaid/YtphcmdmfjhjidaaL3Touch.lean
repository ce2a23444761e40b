/- L3Touch: PolyTouch. -/
import Derived.Test.YtphcmdmfjhjidaaL3Inside
import Derived.Test.YtphcmdmfjhjidaaGeoT
import Derived.Test.YtphcmdmfjhjidaaRows
import Derived.WalkKit
import Derived.WalkSpells
import Derived.WalkLawsBesides
import Derived.Lib.Hide
import Derived.Deep.QuietTactic
import Derived.BigQuiet
import Derived.RegionTactic
import Derived.ChangeAlike
import Derived.BigRegion
import Derived.Deep.RegionHeld3
import Derived.Deep.RegionWith
import Derived.Outline
import Derived.IntWalk
import Derived.LoopTactic
namespace Go.Proofs.Ytphcmdmfjhjidaa.Po
open Go.RowKit
set_option linter.unusedSimpArgs false
set_option linter.unusedVariables false

theorem Touch_any (v u : Value) (l m : List Pt) (w : World) (hp : Pts w v l) (hu : Pts w u m) : Calls Try.prog 13 #[v, u] w (fun e W' => ∃ (x : Bool) (y : Int), e = .returned (.tuple #[(.bool x), (.int .i64 y)]) ∧ Below w.heap.size w W') := by
  by_cases h : vaL l = true ∧ vaL m = true
  · exact (Touch_ok v u l m w hp hu h.1 h.2).mono fun e W' ⟨he, hb⟩ => ⟨_, _, he, hb⟩
  · exact (Touch_no v u l m w hp hu h).mono fun e W' ⟨he, hb⟩ => ⟨_, _, he, hb⟩
set_option maxRecDepth 100000 in
set_option maxHeartbeats 6400000 in
theorem touchlaw_bad (w : World) (v u : Value) (l m : List Pt) (hp : Pts w v l) (hu : Pts w u m) (q1 q2 : Int) (hbad : ¬ (vaL l = true ∧ vaL m = true)) : Calls Try.prog 5 #[v, u, (.agg #[.int .i64 q1, .int .i64 q2])] w (Ret w (.bool true)) := by
  have hp0 := hp
  have hu0 := hu
  obtain ⟨⟨p, cap, rfl, -⟩, -⟩ := hp0
  obtain ⟨⟨p2, cap2, rfl, -⟩, -⟩ := hu0
  have HP := Lib.hid hp
  have HU := Lib.hid hu
  clear hp hu
  have HB := Lib.hid hbad
  clear hbad
  go_enter Try.func5, Try.ntmps5
  go_wp2_with fail
  refine Calls.mono (head_c _) ?_
  rintro e w1 ⟨rfl, hb1⟩
  have hB1 : Below w.heap.size w w1 := (by repeat (first | exact Below.refl _ _ | assumption | refine bstep ?_ (by assumption) | refine Below.drew ?_ | refine balloc ?_ _ | refine Below.setCell ?_ (by first | omega | (simp <;> omega)) _))
  obtain ⟨hc1, hf1⟩ := bcell hb1
  (try simp at hc1)
  have g1 := fun o => hc1 w.heap.size o (by omega)
  have hs1 := hb1.size
  (try simp at hs1)
  clear hc1 hf1
  go_wp2_with fail
  refine Calls.mono (Touch_no _ _ l m _ (HP.out.below hB1) (HU.out.below hB1) HB.out) ?_
  rintro e w2 ⟨rfl, hb2⟩
  have hB2 : Below w.heap.size w w2 := bstep hB1 hb2
  obtain ⟨hc2, hf2⟩ := bcell hb2
  have hs2 := hb2.size
  have ga2 := fun o => hc2 w.heap.size o (by omega)
  clear hc2 hf2 hb2
  go_wp2_with fail
  refine Calls.mono (Touch_no _ _ m l _ (HU.out.below hB2) (HP.out.below hB2) (fun h => HB.out ⟨h.2, h.1⟩)) ?_
  rintro e w3 ⟨rfl, hb3⟩
  have hB3 : Below w.heap.size w w3 := bstep hB2 hb3
  obtain ⟨hc3, hf3⟩ := bcell hb3
  have hs3 := hb3.size
  have ga3 := fun o => hc3 w.heap.size o (by omega)
  clear hc3 hf3 hb3
  go_wp2_with fail
  refine Calls.mono (Touch_any _ _ l l _ (HP.out.below hB3) (HP.out.below hB3)) ?_
  rintro e w4 ⟨x, y, rfl, hb4⟩
  go_wp2
  go_ret
  exact ⟨rfl, (by repeat (first | exact Below.refl _ _ | assumption | refine bstep ?_ (by assumption) | refine Below.drew ?_ | refine balloc ?_ _ | refine Below.setCell ?_ (by first | omega | (simp <;> omega)) _))⟩
set_option maxRecDepth 100000 in
set_option maxHeartbeats 12800000 in
theorem touchlaw_ok (w : World) (v u : Value) (l m : List Pt) (hp : Pts w v l) (hu : Pts w u m) (q1 q2 : Int) (hv : vaL l = true) (hm : vaL m = true) : Calls Try.prog 5 #[v, u, (.agg #[.int .i64 q1, .int .i64 q2])] w (Ret w (.bool true)) := by
  have hp0 := hp
  have hu0 := hu
  obtain ⟨⟨p, cap, rfl, -⟩, -⟩ := hp0
  obtain ⟨⟨p2, cap2, rfl, -⟩, -⟩ := hu0
  have HP := Lib.hid hp
  have HU := Lib.hid hu
  clear hp hu
  have HV := Lib.hid hv
  have HM := Lib.hid hm
  have H1 := Lib.hid (tou_of (l := l) (m := m) (q := (q1, q2)) (vaL_len hv) (vaL_len hm))
  have H2 := Lib.hid (tou_comm m l)
  have H3 := Lib.hid (tou_self l (vaL_len hv))
  clear hv hm
  go_enter Try.func5, Try.ntmps5
  go_wp2_with fail
  refine Calls.mono (head_c _) ?_
  rintro e w1 ⟨rfl, hb1⟩
  have hB1 : Below w.heap.size w w1 := (by repeat (first | exact Below.refl _ _ | assumption | refine bstep ?_ (by assumption) | refine Below.drew ?_ | refine balloc ?_ _ | refine Below.setCell ?_ (by first | omega | (simp <;> omega)) _))
  obtain ⟨hc1, hf1⟩ := bcell hb1
  (try simp at hc1)
  have g1 := fun o => hc1 w.heap.size o (by omega)
  have hs1 := hb1.size
  (try simp at hs1)
  clear hc1 hf1
  go_wp2_with fail
  refine Calls.mono (Touch_ok _ _ l m _ (HP.out.below hB1) (HU.out.below hB1) HV.out HM.out) ?_
  rintro e w2 ⟨rfl, hb2⟩
  have hB2 : Below w.heap.size w w2 := bstep hB1 hb2
  obtain ⟨hc2, hf2⟩ := bcell hb2
  have hs2 := hb2.size
  have ga2 := fun o => hc2 w.heap.size o (by omega)
  clear hc2 hf2 hb2
  go_wp2_with fail
  refine Calls.mono (Touch_ok _ _ m l _ (HU.out.below hB2) (HP.out.below hB2) HM.out HV.out) ?_
  rintro e w3 ⟨rfl, hb3⟩
  have hB3 : Below w.heap.size w w3 := bstep hB2 hb3
  obtain ⟨hc3, hf3⟩ := bcell hb3
  have hs3 := hb3.size
  have ga3 := fun o => hc3 w.heap.size o (by omega)
  clear hc3 hf3 hb3
  rw [H2.out]
  go_wp2_with fail
  refine Calls.mono (Touch_ok _ _ l l _ (HP.out.below hB3) (HP.out.below hB3) HV.out HV.out) ?_
  rintro e w4 ⟨rfl, hb4⟩
  have hB4 : Below w.heap.size w w4 := bstep hB3 hb4
  obtain ⟨hc4, hf4⟩ := bcell hb4
  have hs4 := hb4.size
  have ga4 := fun o => hc4 w.heap.size o (by omega)
  clear hc4 hf4 hb4
  rw [H3.out]
  have H1' : 0 ≤ siL (q1, q2) l → 0 ≤ siL (q1, q2) m → touL l m = true := H1.out
  clear H1 H2 H3
  generalize touL l m = T at *
  have H4 := Lib.hid H1'
  clear H1'
  by_cases hq : ok q1 q2
  · have HQ := Lib.hid hq
    clear hq
    cases T
    all_goals
      go_wp2_with fail
      refine Calls.mono (In_ok _ _ _ l _ (HP.out.below hB4) HQ.out HV.out) ?_
      rintro e w5 ⟨rfl, hb5⟩
      have hB5 : Below w.heap.size w w5 := bstep hB4 hb5
      obtain ⟨hc5, hf5⟩ := bcell hb5
      have hs5 := hb5.size
      have ga5 := fun o => hc5 w.heap.size o (by omega)
      clear hc5 hf5 hb5

      go_wp2_with fail
      refine Calls.mono (In_ok _ _ _ m _ (HU.out.below hB5) HQ.out HM.out) ?_
      rintro e w6 ⟨rfl, hb6⟩
      have hx := si_cases (q1, q2) l
      have hy := si_cases (q1, q2) m
      have h7 := H4.out
      clear H4
      generalize siL (q1, q2) l = X at *
      generalize siL (q1, q2) m = Y at *
      rcases hx with rfl | rfl | rfl <;> rcases hy with rfl | rfl | rfl
      all_goals (first | (exfalso; revert h7; decide) | (clear h7; go_wp2; go_ret; exact ⟨rfl, (by repeat (first | exact Below.refl _ _ | assumption | refine bstep ?_ (by assumption) | refine Below.drew ?_ | refine balloc ?_ _ | refine Below.setCell ?_ (by first | omega | (simp <;> omega)) _))⟩))
  · have HQ := Lib.hid hq
    clear hq
    go_wp2_with fail
    refine Calls.mono (In_no _ _ _ l _ (HP.out.below hB4) (fun h => HQ.out h.1)) ?_
    rintro e w5 ⟨rfl, hb5⟩
    have hB5 : Below w.heap.size w w5 := bstep hB4 hb5
    obtain ⟨hc5, hf5⟩ := bcell hb5
    have hs5 := hb5.size
    have ga5 := fun o => hc5 w.heap.size o (by omega)
    clear hc5 hf5 hb5

    go_wp2_with fail
    refine Calls.mono (In_no _ _ _ m _ (HU.out.below hB5) (fun h => HQ.out h.1)) ?_
    rintro e w6 ⟨rfl, hb6⟩
    cases T
    all_goals (go_wp2; go_ret; exact ⟨rfl, (by repeat (first | exact Below.refl _ _ | assumption | refine bstep ?_ (by assumption) | refine Below.drew ?_ | refine balloc ?_ _ | refine Below.setCell ?_ (by first | omega | (simp <;> omega)) _))⟩)
theorem touchlaw_c (w : World) (v : Value) (l : List Pt) (hp : Pts w v l) (u : Value) (m : List Pt) (hu : Pts w u m) (q1 q2 : Int) : Calls Try.prog 5 #[v, u, (.agg #[.int .i64 q1, .int .i64 q2])] w (Ret w (.bool true)) := by
  by_cases h : vaL l = true ∧ vaL m = true
  · exact touchlaw_ok w v u l m hp hu q1 q2 h.1 h.2
  · exact touchlaw_bad w v u l m hp hu q1 q2 h

end Go.Proofs.Ytphcmdmfjhjidaa.Po
