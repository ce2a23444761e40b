/- PolO: the exported functions of package poly but Hull, Box and Rect. -/
import Derived.Test.YtfgajejhjbfhjaaGreatGi
import Derived.Test.YtfgajejhjbfhjaaGreatPolN
import Derived.Test.YtfgajejhjbfhjaaGreatRows
import Derived.WalkKit
import Derived.WalkSpells
import Derived.WalkLawsBesides
import Derived.Lib.Hide
import Derived.Deep.QuietTactic
import Derived.BigQuiet
import Derived.RegionTactic
import Derived.ChangeAlike
import Derived.BigRegion
import Derived.Deep.RegionHeld3
import Derived.Deep.RegionWith
import Derived.Outline
import Derived.IntWalk
namespace Go.Proofs.YtfgajejhjbfhjaaGreat.Po
open Go.RowKit
set_option linter.unusedSimpArgs false
set_option linter.unusedVariables false

/-- A slice value whose places are l. -/
structure Pts (w : World) (v : Value) (l : List Pt) : Prop where
  ex : ∃ (p : Option Addr) (cap : Nat), v = .slice p l.length cap ∧ (0 < l.length → ∃ b off, p = some ⟨b, off, none⟩ ∧ Row w b off l)
  len : l.length ≤ 9223372036854775807
theorem Pts.mk' {w : World} {b off cap : Nat} {l : List Pt} (hr : Row w b off l) (hl : l.length ≤ 9223372036854775807) : Pts w (.slice (some ⟨b, off, none⟩) l.length cap) l := ⟨⟨_, _, rfl, fun _ => ⟨_, _, rfl, hr⟩⟩, hl⟩
theorem Pts.below {w W : World} {v : Value} {l : List Pt} (h : Pts w v l) (hb : Below w.heap.size w W) : Pts W v l := by
  obtain ⟨⟨p, cap, hv, hp⟩, hl⟩ := h
  refine ⟨⟨p, cap, hv, fun h0 => ?_⟩, hl⟩
  obtain ⟨b, off, rfl, hr⟩ := hp h0
  exact ⟨b, off, rfl, hr.below (hr.lt h0) hb⟩
/-- A valid polygon. -/
def vaL (l : List Pt) : Bool := decide (3 ≤ l.length) && decide (l.length ≤ 24) && okL l && blB l && bendB l && simpB l && decide (0 < arL l)
theorem vaL_iff {l : List Pt} : vaL l = true ↔ 3 ≤ l.length ∧ l.length ≤ 24 ∧ okL l = true ∧ blB l = true ∧ bendB l = true ∧ simpB l = true ∧ 0 < arL l := by
  simp [vaL, and_assoc]

set_option maxRecDepth 100000 in
set_option maxHeartbeats 3200000 in
theorem Valid_c (v : Value) (l : List Pt) (w : World) (hp : Pts w v l) : Calls Tryz.prog 159 #[v] w (Ret w (.bool (vaL l))) := by
  obtain ⟨⟨p, cap, rfl, hp⟩, hlen⟩ := hp
  by_cases h3 : l.length < 3
  · have hv : vaL l = false := by rw [Bool.eq_false_iff]; intro h; have := (vaL_iff.1 h).1; omega
    have HV := Lib.hid hv
    have HP := Lib.hid hp
    clear hv hp
    go_enter Tryz.func159, Tryz.ntmps159
    go_wp2
    go_ret
    exact ret_bv HV.out.symm (by repeat (first | with_reducible exact Below.refl _ _ | with_reducible assumption | with_reducible refine Below.setCell ?_ (by first | omega | (simp <;> omega)) _ | with_reducible refine balloc ?_ _ | with_reducible refine Below.drew ?_ | with_reducible refine bstep ?_ (by with_reducible assumption)))
  · by_cases h24 : 24 < l.length
    · have hv : vaL l = false := by rw [Bool.eq_false_iff]; intro h; have := (vaL_iff.1 h).2.1; omega
      have HV := Lib.hid hv
      have HP := Lib.hid hp
      clear hv hp
      go_enter Tryz.func159, Tryz.ntmps159
      go_wp2
      go_ret
      exact ret_bv HV.out.symm (by repeat (first | with_reducible exact Below.refl _ _ | with_reducible assumption | with_reducible refine Below.setCell ?_ (by first | omega | (simp <;> omega)) _ | with_reducible refine balloc ?_ _ | with_reducible refine Below.drew ?_ | with_reducible refine bstep ?_ (by with_reducible assumption)))
    · obtain ⟨b, off, rfl, hr⟩ := hp (by omega)
      have h0l : 0 < l.length := by omega
      have hbl := hr.lt h0l
      have HR := Lib.hid hr
      clear hr hp
      have l24 : l.length ≤ 24 := by omega
      have l3 : 3 ≤ l.length := by omega
      have y4 : l ≠ [] := by intro e; subst e; simp at h0l
      cases hok : okL l
      · have HV := Lib.hid (show vaL l = false by simp [vaL, hok])
        have HK := Lib.hid hok
        go_enter Tryz.func159, Tryz.ntmps159
        go_wp2_with fail
        refine Calls.mono (allOk_c b off cap l _ (by omega) h0l HR.out) ?_
        rintro e w1 ⟨rfl, hb1⟩
        go_wp2
        go_ret
        exact ret_bv HV.out.symm (by repeat (first | with_reducible exact Below.refl _ _ | with_reducible assumption | with_reducible refine Below.setCell ?_ (by first | omega | (simp <;> omega)) _ | with_reducible refine balloc ?_ _ | with_reducible refine Below.drew ?_ | with_reducible refine bstep ?_ (by with_reducible assumption)))
      · cases hbb : blB l
        · have HV := Lib.hid (show vaL l = false by simp [vaL, hbb])
          have HK := Lib.hid hok
          go_enter Tryz.func159, Tryz.ntmps159
          go_wp2_with fail
          refine Calls.mono (allOk_c b off cap l _ (by omega) h0l HR.out) ?_
          rintro e w1 ⟨rfl, hb1⟩
          go_wp2_with fail
          refine Calls.mono (least_c b off cap l _ HK.out l24 h0l (HR.out.below hbl (by repeat (first | with_reducible exact Below.refl _ _ | with_reducible assumption | with_reducible refine Below.setCell ?_ (by first | omega | (simp <;> omega)) _ | with_reducible refine balloc ?_ _ | with_reducible refine Below.drew ?_ | with_reducible refine bstep ?_ (by with_reducible assumption))))) ?_
          rintro e w2 ⟨rfl, hb2⟩
          have hB2 : Below w.heap.size w w2 := (by repeat (first | with_reducible exact Below.refl _ _ | with_reducible assumption | with_reducible refine Below.setCell ?_ (by first | omega | (simp <;> omega)) _ | with_reducible refine balloc ?_ _ | with_reducible refine Below.drew ?_ | with_reducible refine bstep ?_ (by with_reducible assumption)))
          go_wp2
          go_ret
          exact ret_bv HV.out.symm (by repeat (first | with_reducible exact Below.refl _ _ | with_reducible assumption | with_reducible refine Below.setCell ?_ (by first | omega | (simp <;> omega)) _ | with_reducible refine balloc ?_ _ | with_reducible refine Below.drew ?_ | with_reducible refine bstep ?_ (by with_reducible assumption)))
        · cases hbn : bendB l
          · have HV := Lib.hid (show vaL l = false by simp [vaL, hbn])
            have HK := Lib.hid hok
            go_enter Tryz.func159, Tryz.ntmps159
            go_wp2_with fail
            refine Calls.mono (allOk_c b off cap l _ (by omega) h0l HR.out) ?_
            rintro e w1 ⟨rfl, hb1⟩
            go_wp2_with fail
            refine Calls.mono (least_c b off cap l _ HK.out l24 h0l (HR.out.below hbl (by repeat (first | with_reducible exact Below.refl _ _ | with_reducible assumption | with_reducible refine Below.setCell ?_ (by first | omega | (simp <;> omega)) _ | with_reducible refine balloc ?_ _ | with_reducible refine Below.drew ?_ | with_reducible refine bstep ?_ (by with_reducible assumption))))) ?_
            rintro e w2 ⟨rfl, hb2⟩
            have hB2 : Below w.heap.size w w2 := (by repeat (first | with_reducible exact Below.refl _ _ | with_reducible assumption | with_reducible refine Below.setCell ?_ (by first | omega | (simp <;> omega)) _ | with_reducible refine balloc ?_ _ | with_reducible refine Below.drew ?_ | with_reducible refine bstep ?_ (by with_reducible assumption)))
            clear hb2 hb1
            go_wp2_with fail
            refine Calls.mono (bends_c b off cap l _ HK.out l24 h0l (HR.out.below hbl (by repeat (first | with_reducible exact Below.refl _ _ | with_reducible assumption | with_reducible refine Below.setCell ?_ (by first | omega | (simp <;> omega)) _ | with_reducible refine balloc ?_ _ | with_reducible refine Below.drew ?_ | with_reducible refine bstep ?_ (by with_reducible assumption))))) ?_
            rintro e w3 ⟨rfl, hb3⟩
            have hB3 : Below w.heap.size w w3 := (by repeat (first | with_reducible exact Below.refl _ _ | with_reducible assumption | with_reducible refine Below.setCell ?_ (by first | omega | (simp <;> omega)) _ | with_reducible refine balloc ?_ _ | with_reducible refine Below.drew ?_ | with_reducible refine bstep ?_ (by with_reducible assumption)))
            go_wp2
            go_ret
            exact ret_bv HV.out.symm (by repeat (first | with_reducible exact Below.refl _ _ | with_reducible assumption | with_reducible refine Below.setCell ?_ (by first | omega | (simp <;> omega)) _ | with_reducible refine balloc ?_ _ | with_reducible refine Below.drew ?_ | with_reducible refine bstep ?_ (by with_reducible assumption)))
          · cases hsm : simpB l
            all_goals
              have HV := Lib.hid (show vaL l = (simpB l && decide (0 < arL l)) by simp [vaL, hok, hbb, hbn, l3, l24])
              have HK := Lib.hid hok
              have HS := Lib.hid hsm
              go_enter Tryz.func159, Tryz.ntmps159
              go_wp2_with fail
              refine Calls.mono (allOk_c b off cap l _ (by omega) h0l HR.out) ?_
              rintro e w1 ⟨rfl, hb1⟩
              go_wp2_with fail
              refine Calls.mono (least_c b off cap l _ HK.out l24 h0l (HR.out.below hbl (by repeat (first | with_reducible exact Below.refl _ _ | with_reducible assumption | with_reducible refine Below.setCell ?_ (by first | omega | (simp <;> omega)) _ | with_reducible refine balloc ?_ _ | with_reducible refine Below.drew ?_ | with_reducible refine bstep ?_ (by with_reducible assumption))))) ?_
              rintro e w2 ⟨rfl, hb2⟩
              have hB2 : Below w.heap.size w w2 := (by repeat (first | with_reducible exact Below.refl _ _ | with_reducible assumption | with_reducible refine Below.setCell ?_ (by first | omega | (simp <;> omega)) _ | with_reducible refine balloc ?_ _ | with_reducible refine Below.drew ?_ | with_reducible refine bstep ?_ (by with_reducible assumption)))
              clear hb2 hb1
              go_wp2_with fail
              refine Calls.mono (bends_c b off cap l _ HK.out l24 h0l (HR.out.below hbl (by repeat (first | with_reducible exact Below.refl _ _ | with_reducible assumption | with_reducible refine Below.setCell ?_ (by first | omega | (simp <;> omega)) _ | with_reducible refine balloc ?_ _ | with_reducible refine Below.drew ?_ | with_reducible refine bstep ?_ (by with_reducible assumption))))) ?_
              rintro e w3 ⟨rfl, hb3⟩
              have hB3 : Below w.heap.size w w3 := (by repeat (first | with_reducible exact Below.refl _ _ | with_reducible assumption | with_reducible refine Below.setCell ?_ (by first | omega | (simp <;> omega)) _ | with_reducible refine balloc ?_ _ | with_reducible refine Below.drew ?_ | with_reducible refine bstep ?_ (by with_reducible assumption)))
              clear hb3 hB2
              go_wp2_with fail
              refine Calls.mono (simple_c b off cap l _ HK.out l24 h0l (HR.out.below hbl (by repeat (first | with_reducible exact Below.refl _ _ | with_reducible assumption | with_reducible refine Below.setCell ?_ (by first | omega | (simp <;> omega)) _ | with_reducible refine balloc ?_ _ | with_reducible refine Below.drew ?_ | with_reducible refine bstep ?_ (by with_reducible assumption))))) ?_
              rintro e w4 ⟨rfl, hb4⟩
              have hB4 : Below w.heap.size w w4 := (by repeat (first | with_reducible exact Below.refl _ _ | with_reducible assumption | with_reducible refine Below.setCell ?_ (by first | omega | (simp <;> omega)) _ | with_reducible refine balloc ?_ _ | with_reducible refine Below.drew ?_ | with_reducible refine bstep ?_ (by with_reducible assumption)))
              clear hb4 hB3
            · go_wp2
              go_ret
              exact ret_bv (by rw [HV.out, HS.out]; rfl) (by repeat (first | with_reducible exact Below.refl _ _ | with_reducible assumption | with_reducible refine Below.setCell ?_ (by first | omega | (simp <;> omega)) _ | with_reducible refine balloc ?_ _ | with_reducible refine Below.drew ?_ | with_reducible refine bstep ?_ (by with_reducible assumption)))
            · go_wp2_with fail
              refine Calls.mono (area_c b off cap l _ HK.out l24 h0l (HR.out.below hbl (by repeat (first | with_reducible exact Below.refl _ _ | with_reducible assumption | with_reducible refine Below.setCell ?_ (by first | omega | (simp <;> omega)) _ | with_reducible refine balloc ?_ _ | with_reducible refine Below.drew ?_ | with_reducible refine bstep ?_ (by with_reducible assumption))))) ?_
              rintro e w5 ⟨rfl, hb5⟩
              have hB5 : Below w.heap.size w w5 := (by repeat (first | with_reducible exact Below.refl _ _ | with_reducible assumption | with_reducible refine Below.setCell ?_ (by first | omega | (simp <;> omega)) _ | with_reducible refine balloc ?_ _ | with_reducible refine Below.drew ?_ | with_reducible refine bstep ?_ (by with_reducible assumption)))
              generalize hA : arL l = A at *
              have HA := Lib.hid hA
              clear hb5 hB4 hA
              go_wp2
              all_goals
                go_ret
                refine ret_bv ?_ (by repeat (first | with_reducible exact Below.refl _ _ | with_reducible assumption | with_reducible refine Below.setCell ?_ (by first | omega | (simp <;> omega)) _ | with_reducible refine balloc ?_ _ | with_reducible refine Below.drew ?_ | with_reducible refine bstep ?_ (by with_reducible assumption)))
                rw [HV.out, HS.out]
                simp <;> omega

theorem Pts.row {w : World} {v : Value} {l : List Pt} (h : Pts w v l) (h0 : 0 < l.length) : ∃ b off cap, v = .slice (some ⟨b, off, none⟩) l.length cap ∧ Row w b off l := by
  obtain ⟨⟨p, cap, hv, hp⟩, hl⟩ := h
  obtain ⟨b, off, rfl, hr⟩ := hp h0
  exact ⟨b, off, cap, hv, hr⟩
theorem vaL_len {l : List Pt} (h : vaL l = true) : 0 < l.length := by have := (vaL_iff.1 h).1; omega

set_option maxRecDepth 100000 in
set_option maxHeartbeats 1600000 in
theorem In_ok (q1 q2 : Int) (v : Value) (l : List Pt) (w : World) (hp : Pts w v l) (hq : ok q1 q2) (hv : vaL l = true) : Calls Tryz.prog 201 #[(.agg #[.int .i64 q1, .int .i64 q2]), v] w (Ret w (.tuple #[(.int .i64 (siL (q1, q2) l)), (.int .i64 0)])) := by
  obtain ⟨a3, a24, aok, -⟩ := vaL_iff.1 hv
  obtain ⟨b, off, cap, rfl, hr⟩ := hp.row (vaL_len hv)
  have hbl := hr.lt (vaL_len hv)
  have vq : okB q1 q2 = true := okB_iff.2 hq
  have HR := Lib.hid hr
  have HP := Lib.hid hp
  have HV := Lib.hid hv
  clear hr hp
  go_enter Tryz.func201, Tryz.ntmps201
  go_wp2_with fail
  refine Calls.mono (valid_c _ _ _) ?_
  rintro e w1 ⟨rfl, hb1⟩
  obtain ⟨hc1, hf1⟩ := bcell hb1
  have hs1 := hb1.size
  (try simp at hs1)
  have g1 := fun o => hc1 w.heap.size o (by first | omega | (simp <;> omega))
  have hB1 : Below w.heap.size w w1 := (by repeat (first | with_reducible exact Below.refl _ _ | with_reducible assumption | with_reducible refine Below.setCell ?_ (by first | omega | (simp <;> omega)) _ | with_reducible refine balloc ?_ _ | with_reducible refine Below.drew ?_ | with_reducible refine bstep ?_ (by with_reducible assumption)))
  clear hc1 hf1
  go_wp2_with fail
  refine Calls.mono (Valid_c _ l _ (HP.out.below hB1)) ?_
  rintro e w2 ⟨rfl, hb2⟩
  obtain ⟨hc2, hf2⟩ := bcell hb2
  have hs2 := hb2.size
  have g2 := fun o => hc2 w.heap.size o (by omega)
  have hB2 : Below w.heap.size w w2 := bstep hB1 hb2
  clear hc2 hf2
  go_wp2_with fail
  refine Calls.mono (side_c b off cap l _ _ _ aok hq a24 (vaL_len HV.out) (HR.out.below hbl hB2)) ?_
  rintro e w3 ⟨rfl, hb3⟩
  have hB3 : Below w.heap.size w w3 := bstep hB2 hb3
  go_wp2
  go_ret2
  exact ⟨rfl, hB3⟩

set_option maxRecDepth 100000 in
set_option maxHeartbeats 1600000 in
theorem In_no (q1 q2 : Int) (v : Value) (l : List Pt) (w : World) (hp : Pts w v l) (hn : ¬ (ok q1 q2 ∧ vaL l = true)) : Calls Tryz.prog 201 #[(.agg #[.int .i64 q1, .int .i64 q2]), v] w (Ret w (.tuple #[(.int .i64 0), (.int .i64 1)])) := by
  have HP := Lib.hid hp
  clear hp
  cases hq : okB q1 q2
  · clear hn
    go_enter Tryz.func201, Tryz.ntmps201
    go_wp2_with fail
    refine Calls.mono (valid_c _ _ _) ?_
    rintro e w1 ⟨rfl, hb1⟩
    go_wp2
    go_ret2
    exact ⟨rfl, (by repeat (first | with_reducible exact Below.refl _ _ | with_reducible assumption | with_reducible refine Below.setCell ?_ (by first | omega | (simp <;> omega)) _ | with_reducible refine balloc ?_ _ | with_reducible refine Below.drew ?_ | with_reducible refine bstep ?_ (by with_reducible assumption)))⟩
  · have hv : vaL l = false := by rw [Bool.eq_false_iff]; exact fun h => hn ⟨okB_iff.1 hq, h⟩
    clear hn
    go_enter Tryz.func201, Tryz.ntmps201
    go_wp2_with fail
    refine Calls.mono (valid_c _ _ _) ?_
    rintro e w1 ⟨rfl, hb1⟩
    have hB1 : Below w.heap.size w w1 := (by repeat (first | with_reducible exact Below.refl _ _ | with_reducible assumption | with_reducible refine Below.setCell ?_ (by first | omega | (simp <;> omega)) _ | with_reducible refine balloc ?_ _ | with_reducible refine Below.drew ?_ | with_reducible refine bstep ?_ (by with_reducible assumption)))
    go_wp2_with fail
    refine Calls.mono (Valid_c _ l _ (HP.out.below hB1)) ?_
    rintro e w2 ⟨rfl, hb2⟩
    go_wp2
    go_ret2
    exact ⟨rfl, (by repeat (first | with_reducible exact Below.refl _ _ | with_reducible assumption | with_reducible refine Below.setCell ?_ (by first | omega | (simp <;> omega)) _ | with_reducible refine balloc ?_ _ | with_reducible refine Below.drew ?_ | with_reducible refine bstep ?_ (by with_reducible assumption)))⟩

set_option maxRecDepth 100000 in
set_option maxHeartbeats 1600000 in
theorem Touch_ok (v u : Value) (l m : List Pt) (w : World) (hp : Pts w v l) (hu : Pts w u m) (hv : vaL l = true) (hm : vaL m = true) : Calls Tryz.prog 203 #[v, u] w (Ret w (.tuple #[(.bool (touL l m)), (.int .i64 0)])) := by
  obtain ⟨a3, a24, aok, -⟩ := vaL_iff.1 hv
  obtain ⟨m3, m24, mok, -⟩ := vaL_iff.1 hm
  obtain ⟨b, off, cap, rfl, hr⟩ := hp.row (vaL_len hv)
  obtain ⟨b2, off2, cap2, rfl, hs⟩ := hu.row (vaL_len hm)
  have hbl := hr.lt (vaL_len hv)
  have hbm := hs.lt (vaL_len hm)
  have HR := Lib.hid hr
  have HS := Lib.hid hs
  have HP := Lib.hid hp
  have HU := Lib.hid hu
  have HV := Lib.hid hv
  have HW := Lib.hid hm
  clear hr hp hs hu
  go_enter Tryz.func203, Tryz.ntmps203
  go_wp2_with fail
  refine Calls.mono (Valid_c _ l _ HP.out) ?_
  rintro e w2 ⟨rfl, hb2⟩
  go_wp2_with fail
  refine Calls.mono (Valid_c _ m _ (HU.out.below hb2)) ?_
  rintro e w3 ⟨rfl, hb3⟩
  have hB3 : Below w.heap.size w w3 := bstep hb2 hb3
  go_wp2_with fail
  refine Calls.mono (touches_c b off cap b2 off2 cap2 l m _ aok a24 (vaL_len HV.out) mok m24 (vaL_len HW.out) (HR.out.below hbl hB3) (HS.out.below hbm hB3)) ?_
  rintro e w4 ⟨rfl, hb4⟩
  have hB4 : Below w.heap.size w w4 := bstep hB3 hb4
  go_wp2
  go_ret2
  exact ⟨rfl, hB4⟩
set_option maxRecDepth 100000 in
set_option maxHeartbeats 1600000 in
theorem Touch_no (v u : Value) (l m : List Pt) (w : World) (hp : Pts w v l) (hu : Pts w u m) (hn : ¬ (vaL l = true ∧ vaL m = true)) : Calls Tryz.prog 203 #[v, u] w (Ret w (.tuple #[(.bool false), (.int .i64 1)])) := by
  have HP := Lib.hid hp
  have HU := Lib.hid hu
  clear hp hu
  cases hv : vaL l
  · clear hn
    go_enter Tryz.func203, Tryz.ntmps203
    go_wp2_with fail
    refine Calls.mono (Valid_c _ l _ HP.out) ?_
    rintro e w2 ⟨rfl, hb2⟩
    go_wp2
    go_ret2
    exact ⟨rfl, (by repeat (first | with_reducible exact Below.refl _ _ | with_reducible assumption | with_reducible refine Below.setCell ?_ (by first | omega | (simp <;> omega)) _ | with_reducible refine balloc ?_ _ | with_reducible refine Below.drew ?_ | with_reducible refine bstep ?_ (by with_reducible assumption)))⟩
  · have hm : vaL m = false := by rw [Bool.eq_false_iff]; exact fun h => hn ⟨hv, h⟩
    clear hn
    go_enter Tryz.func203, Tryz.ntmps203
    go_wp2_with fail
    refine Calls.mono (Valid_c _ l _ HP.out) ?_
    rintro e w2 ⟨rfl, hb2⟩
    go_wp2_with fail
    refine Calls.mono (Valid_c _ m _ (HU.out.below hb2)) ?_
    rintro e w3 ⟨rfl, hb3⟩
    go_wp2
    go_ret2
    exact ⟨rfl, (by repeat (first | with_reducible exact Below.refl _ _ | with_reducible assumption | with_reducible refine Below.setCell ?_ (by first | omega | (simp <;> omega)) _ | with_reducible refine balloc ?_ _ | with_reducible refine Below.drew ?_ | with_reducible refine bstep ?_ (by with_reducible assumption)))⟩

set_option maxRecDepth 100000 in
set_option maxHeartbeats 1600000 in
theorem Holds_ok (v u : Value) (l m : List Pt) (w : World) (hp : Pts w v l) (hu : Pts w u m) (hv : vaL l = true) (hm : vaL m = true) : Calls Tryz.prog 202 #[v, u] w (Ret w (.tuple #[(.bool (hoL l m)), (.int .i64 0)])) := by
  obtain ⟨a3, a24, aok, -⟩ := vaL_iff.1 hv
  obtain ⟨m3, m24, mok, -⟩ := vaL_iff.1 hm
  obtain ⟨b, off, cap, rfl, hr⟩ := hp.row (vaL_len hv)
  obtain ⟨b2, off2, cap2, rfl, hs⟩ := hu.row (vaL_len hm)
  have hbl := hr.lt (vaL_len hv)
  have hbm := hs.lt (vaL_len hm)
  have HR := Lib.hid hr
  have HS := Lib.hid hs
  have HP := Lib.hid hp
  have HU := Lib.hid hu
  have HV := Lib.hid hv
  have HW := Lib.hid hm
  clear hr hp hs hu
  go_enter Tryz.func202, Tryz.ntmps202
  go_wp2_with fail
  refine Calls.mono (Valid_c _ l _ HP.out) ?_
  rintro e w2 ⟨rfl, hb2⟩
  go_wp2_with fail
  refine Calls.mono (Valid_c _ m _ (HU.out.below hb2)) ?_
  rintro e w3 ⟨rfl, hb3⟩
  have hB3 : Below w.heap.size w w3 := bstep hb2 hb3
  go_wp2_with fail
  refine Calls.mono (holds_c b off cap b2 off2 cap2 l m _ aok a24 (vaL_len HV.out) mok m24 (vaL_len HW.out) (HR.out.below hbl hB3) (HS.out.below hbm hB3)) ?_
  rintro e w4 ⟨rfl, hb4⟩
  have hB4 : Below w.heap.size w w4 := bstep hB3 hb4
  go_wp2
  go_ret2
  exact ⟨rfl, hB4⟩
set_option maxRecDepth 100000 in
set_option maxHeartbeats 1600000 in
theorem Holds_no (v u : Value) (l m : List Pt) (w : World) (hp : Pts w v l) (hu : Pts w u m) (hn : ¬ (vaL l = true ∧ vaL m = true)) : Calls Tryz.prog 202 #[v, u] w (Ret w (.tuple #[(.bool false), (.int .i64 1)])) := by
  have HP := Lib.hid hp
  have HU := Lib.hid hu
  clear hp hu
  cases hv : vaL l
  · clear hn
    go_enter Tryz.func202, Tryz.ntmps202
    go_wp2_with fail
    refine Calls.mono (Valid_c _ l _ HP.out) ?_
    rintro e w2 ⟨rfl, hb2⟩
    go_wp2
    go_ret2
    exact ⟨rfl, (by repeat (first | with_reducible exact Below.refl _ _ | with_reducible assumption | with_reducible refine Below.setCell ?_ (by first | omega | (simp <;> omega)) _ | with_reducible refine balloc ?_ _ | with_reducible refine Below.drew ?_ | with_reducible refine bstep ?_ (by with_reducible assumption)))⟩
  · have hm : vaL m = false := by rw [Bool.eq_false_iff]; exact fun h => hn ⟨hv, h⟩
    clear hn
    go_enter Tryz.func202, Tryz.ntmps202
    go_wp2_with fail
    refine Calls.mono (Valid_c _ l _ HP.out) ?_
    rintro e w2 ⟨rfl, hb2⟩
    go_wp2_with fail
    refine Calls.mono (Valid_c _ m _ (HU.out.below hb2)) ?_
    rintro e w3 ⟨rfl, hb3⟩
    go_wp2
    go_ret2
    exact ⟨rfl, (by repeat (first | with_reducible exact Below.refl _ _ | with_reducible assumption | with_reducible refine Below.setCell ?_ (by first | omega | (simp <;> omega)) _ | with_reducible refine balloc ?_ _ | with_reducible refine Below.drew ?_ | with_reducible refine bstep ?_ (by with_reducible assumption)))⟩

set_option maxRecDepth 100000 in
set_option maxHeartbeats 1600000 in
theorem Disc_ok (v : Value) (q1 q2 r : Int) (l : List Pt) (w : World) (hp : Pts w v l) (hv : vaL l = true) (hq : ok q1 q2) (hd : okd r) : Calls Tryz.prog 156 #[v, (.agg #[.int .i64 q1, .int .i64 q2]), (.int .i64 r)] w (Ret w (.tuple #[(.int .i64 (diL l (q1, q2) r)), (.int .i64 0)])) := by
  obtain ⟨a3, a24, aok, -⟩ := vaL_iff.1 hv
  obtain ⟨b, off, cap, rfl, hr⟩ := hp.row (vaL_len hv)
  have hbl := hr.lt (vaL_len hv)
  have vq : okB q1 q2 = true := okB_iff.2 hq
  obtain ⟨d1, d2⟩ := id hd
  have HR := Lib.hid hr
  have HP := Lib.hid hp
  have HV := Lib.hid hv
  clear hr hp
  go_enter Tryz.func156, Tryz.ntmps156
  go_wp2_with fail
  refine Calls.mono (Valid_c _ l _ (HP.out.below (by repeat (first | with_reducible exact Below.refl _ _ | with_reducible assumption | with_reducible refine Below.setCell ?_ (by first | omega | (simp <;> omega)) _ | with_reducible refine balloc ?_ _ | with_reducible refine Below.drew ?_ | with_reducible refine bstep ?_ (by with_reducible assumption))))) ?_
  rintro e w1 ⟨rfl, hb1⟩
  obtain ⟨hc1, hf1⟩ := bcell hb1
  have hs1 := hb1.size
  (try simp at hs1)
  have g1 := fun o => hc1 w.heap.size o (by first | omega | (simp <;> omega))
  have hB1 : Below w.heap.size w w1 := (by repeat (first | with_reducible exact Below.refl _ _ | with_reducible assumption | with_reducible refine Below.setCell ?_ (by first | omega | (simp <;> omega)) _ | with_reducible refine balloc ?_ _ | with_reducible refine Below.drew ?_ | with_reducible refine bstep ?_ (by with_reducible assumption)))
  clear hc1 hf1
  go_wp2_with fail
  refine Calls.mono (valid_c _ _ _) ?_
  rintro e w2 ⟨rfl, hb2⟩
  obtain ⟨hc2, hf2⟩ := bcell hb2
  have hs2 := hb2.size
  have g2 := fun o => hc2 w.heap.size o (by omega)
  have hB2 : Below w.heap.size w w2 := bstep hB1 hb2
  clear hc2 hf2
  go_wp2_with fail
  refine Calls.mono (disc_c b off cap l _ _ _ _ aok hq hd a24 (vaL_len HV.out) (HR.out.below hbl hB2)) ?_
  rintro e w3 ⟨rfl, hb3⟩
  have hB3 : Below w.heap.size w w3 := bstep hB2 hb3
  go_wp2
  go_ret2
  exact ⟨rfl, hB3⟩
set_option maxRecDepth 100000 in
set_option maxHeartbeats 1600000 in
theorem Disc_no (v : Value) (q1 q2 r : Int) (l : List Pt) (w : World) (hp : Pts w v l) (hn : ¬ (vaL l = true ∧ ok q1 q2 ∧ okd r)) : Calls Tryz.prog 156 #[v, (.agg #[.int .i64 q1, .int .i64 q2]), (.int .i64 r)] w (Ret w (.tuple #[(.int .i64 0), (.int .i64 1)])) := by
  have HP := Lib.hid hp
  clear hp
  cases hv : vaL l
  · clear hn
    go_enter Tryz.func156, Tryz.ntmps156
    go_wp2_with fail
    refine Calls.mono (Valid_c _ l _ (HP.out.below (by repeat (first | with_reducible exact Below.refl _ _ | with_reducible assumption | with_reducible refine Below.setCell ?_ (by first | omega | (simp <;> omega)) _ | with_reducible refine balloc ?_ _ | with_reducible refine Below.drew ?_ | with_reducible refine bstep ?_ (by with_reducible assumption))))) ?_
    rintro e w2 ⟨rfl, hb2⟩
    go_wp2
    go_ret2
    exact ⟨rfl, (by repeat (first | with_reducible exact Below.refl _ _ | with_reducible assumption | with_reducible refine Below.setCell ?_ (by first | omega | (simp <;> omega)) _ | with_reducible refine balloc ?_ _ | with_reducible refine Below.drew ?_ | with_reducible refine bstep ?_ (by with_reducible assumption)))⟩
  · cases hq : okB q1 q2
    all_goals
      have hd : okB q1 q2 = true → (r < 0 ∨ 3000000 < r) := fun h1 => by
        by_cases h2 : 0 ≤ r ∧ r ≤ 3000000
        · exact absurd ⟨hv, okB_iff.1 h1, h2⟩ hn
        · omega
      clear hn
      have HD := Lib.hid hd
      clear hd
      go_enter Tryz.func156, Tryz.ntmps156
      go_wp2_with fail
      refine Calls.mono (Valid_c _ l _ (HP.out.below (by repeat (first | with_reducible exact Below.refl _ _ | with_reducible assumption | with_reducible refine Below.setCell ?_ (by first | omega | (simp <;> omega)) _ | with_reducible refine balloc ?_ _ | with_reducible refine Below.drew ?_ | with_reducible refine bstep ?_ (by with_reducible assumption))))) ?_
      rintro e w1 ⟨rfl, hb1⟩
      obtain ⟨hc1, hf1⟩ := bcell hb1
      have hs1 := hb1.size
      (try simp at hs1)
      have g1 := fun o => hc1 w.heap.size o (by first | omega | (simp <;> omega))
      have hB1 : Below w.heap.size w w1 := (by repeat (first | with_reducible exact Below.refl _ _ | with_reducible assumption | with_reducible refine Below.setCell ?_ (by first | omega | (simp <;> omega)) _ | with_reducible refine balloc ?_ _ | with_reducible refine Below.drew ?_ | with_reducible refine bstep ?_ (by with_reducible assumption)))
      clear hc1 hf1
      go_wp2_with fail
      refine Calls.mono (valid_c _ _ _) ?_
      rintro e w2 ⟨rfl, hb2⟩
    · go_wp2
      go_ret2
      exact ⟨rfl, (by repeat (first | with_reducible exact Below.refl _ _ | with_reducible assumption | with_reducible refine Below.setCell ?_ (by first | omega | (simp <;> omega)) _ | with_reducible refine balloc ?_ _ | with_reducible refine Below.drew ?_ | with_reducible refine bstep ?_ (by with_reducible assumption)))⟩
    · by_cases h1 : r < 0
      · go_wp2
        go_ret2
        exact ⟨rfl, (by repeat (first | with_reducible exact Below.refl _ _ | with_reducible assumption | with_reducible refine Below.setCell ?_ (by first | omega | (simp <;> omega)) _ | with_reducible refine balloc ?_ _ | with_reducible refine Below.drew ?_ | with_reducible refine bstep ?_ (by with_reducible assumption)))⟩
      · have h2 : 3000000 < r := by
          have h3 : r < 0 ∨ 3000000 < r := by first | exact HD.out | exact HD.out (by simp) | exact HD.out (by assumption)
          omega
        go_wp2
        go_ret2
        exact ⟨rfl, (by repeat (first | with_reducible exact Below.refl _ _ | with_reducible assumption | with_reducible refine Below.setCell ?_ (by first | omega | (simp <;> omega)) _ | with_reducible refine balloc ?_ _ | with_reducible refine Below.drew ?_ | with_reducible refine bstep ?_ (by with_reducible assumption)))⟩


end Go.Proofs.YtfgajejhjbfhjaaGreat.Po
