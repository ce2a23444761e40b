/- L3Disc: PolyDisc. -/
import Derived.Test.YtphcmdmfjhjidaaL3Inside
import Derived.Test.YtphcmdmfjhjidaaGeoD
import Derived.Test.YtphcmdmfjhjidaaRows
import Derived.WalkKit
import Derived.WalkSpells
import Derived.WalkLawsBesides
import Derived.Lib.Hide
import Derived.Deep.QuietTactic
import Derived.BigQuiet
import Derived.RegionTactic
import Derived.ChangeAlike
import Derived.BigRegion
import Derived.Deep.RegionHeld3
import Derived.Deep.RegionWith
import Derived.Outline
import Derived.IntWalk
import Derived.LoopTactic
namespace Go.Proofs.Ytphcmdmfjhjidaa.Po
open Go.RowKit
set_option linter.unusedSimpArgs false
set_option linter.unusedVariables false

theorem Disc_any (v : Value) (q1 q2 r : Int) (l : List Pt) (w : World) (hp : Pts w v l) : Calls Try.prog 16 #[v, (.agg #[.int .i64 q1, .int .i64 q2]), (.int .i64 r)] w (fun e W' => ∃ x y : Int, e = .returned (.tuple #[(.int .i64 x), (.int .i64 y)]) ∧ (¬ (vaL l = true ∧ ok q1 q2 ∧ okd r) → y = 1) ∧ Below w.heap.size w W') := by
  by_cases h : vaL l = true ∧ ok q1 q2 ∧ okd r
  · exact (Disc_ok v q1 q2 r l w hp h.1 h.2.1 h.2.2).mono fun e W' ⟨he, hb⟩ => ⟨_, _, he, fun hn => absurd h hn, hb⟩
  · exact (Disc_no v q1 q2 r l w hp h).mono fun e W' ⟨he, hb⟩ => ⟨_, _, he, fun _ => rfl, hb⟩
theorem di_cases (q : Pt) (r : Int) (l : List Pt) : diL l q r = 1 ∨ diL l q r = 0 ∨ diL l q r = -1 := by
  unfold diL diV
  split
  · split
    · exact .inr (.inr rfl)
    · exact .inl rfl
  · exact .inr (.inl rfl)
set_option maxRecDepth 100000 in
set_option maxHeartbeats 6400000 in
theorem disclaw_bad (w : World) (v : Value) (l : List Pt) (hp : Pts w v l) (q1 q2 r s o1 o2 : Int) (hbad : ¬ (vaL l = true ∧ ok q1 q2 ∧ okd r) ∨ ¬ (vaL l = true ∧ ok q1 q2 ∧ okd s) ∨ r < s) : Calls Try.prog 7 #[v, (.agg #[.int .i64 q1, .int .i64 q2]), (.int .i64 r), (.int .i64 s), (.agg #[.int .i64 o1, .int .i64 o2])] w (Ret w (.bool true)) := by
  have hp0 := hp
  obtain ⟨⟨p, cap, rfl, -⟩, -⟩ := hp0
  have HP := Lib.hid hp
  have HB := Lib.hid hbad
  clear hp hbad
  go_enter Try.func7, Try.ntmps7
  go_wp2_with fail
  refine Calls.mono (head_c _) ?_
  rintro e w1 ⟨rfl, hb1⟩
  have hB1 : Below w.heap.size w w1 := (by repeat (first | exact Below.refl _ _ | assumption | refine bstep ?_ (by assumption) | refine Below.drew ?_ | refine balloc ?_ _ | refine Below.setCell ?_ (by first | omega | (simp <;> omega)) _))
  obtain ⟨hc1, hf1⟩ := bcell hb1
  (try simp at hc1)
  have g1 := fun o => hc1 w.heap.size o (by omega)
  have g2 := fun o => hc1 (w.heap.size + 1) o (by omega)
  have hs1 := hb1.size
  (try simp at hs1)
  clear hc1 hf1
  go_wp2_with fail
  refine Calls.mono (Disc_any _ _ _ _ l _ (HP.out.below hB1)) ?_
  rintro e w2 ⟨x, y, rfl, hy, hb2⟩
  have HY := Lib.hid hy
  clear hy
  have hB2 : Below w.heap.size w w2 := bstep hB1 hb2
  obtain ⟨hc2, hf2⟩ := bcell hb2
  have hs2 := hb2.size
  have ga2 := fun o => hc2 w.heap.size o (by omega)
  have gb2 := fun o => hc2 (w.heap.size + 1) o (by omega)
  clear hc2 hf2 hb2
  go_wp2_with fail
  refine Calls.mono (Disc_any _ _ _ _ l _ (HP.out.below hB2)) ?_
  rintro e w3 ⟨x', y', rfl, hy', hb3⟩
  have hor : y = 1 ∨ y' = 1 ∨ r < s := HB.out.imp HY.out (Or.imp hy' id)
  clear hy'
  by_cases h0 : y = 0
  · by_cases h1 : y' = 0
    · have h2 : r < s := by omega
      clear hor
      subst h0 h1
      go_wp2
      go_ret
      exact ⟨rfl, (by repeat (first | exact Below.refl _ _ | assumption | refine bstep ?_ (by assumption) | refine Below.drew ?_ | refine balloc ?_ _ | refine Below.setCell ?_ (by first | omega | (simp <;> omega)) _))⟩
    · have h1' : (y' == 0) = false := by rw [beq_eq_false_iff_ne]; exact h1
      clear hor
      subst h0
      go_wp2
      go_ret
      exact ⟨rfl, (by repeat (first | exact Below.refl _ _ | assumption | refine bstep ?_ (by assumption) | refine Below.drew ?_ | refine balloc ?_ _ | refine Below.setCell ?_ (by first | omega | (simp <;> omega)) _))⟩
  · have h0' : (y == 0) = false := by rw [beq_eq_false_iff_ne]; exact h0
    clear hor
    go_wp2
    go_ret
    exact ⟨rfl, (by repeat (first | exact Below.refl _ _ | assumption | refine bstep ?_ (by assumption) | refine Below.drew ?_ | refine balloc ?_ _ | refine Below.setCell ?_ (by first | omega | (simp <;> omega)) _))⟩
set_option maxRecDepth 100000 in
set_option maxHeartbeats 12800000 in
theorem disclaw_ok (w : World) (v : Value) (l : List Pt) (hp : Pts w v l) (q1 q2 r s o1 o2 : Int) (hq : ok q1 q2) (hr : okd r) (hs : okd s) (hsr : s ≤ r) (hv : vaL l = true) : Calls Try.prog 7 #[v, (.agg #[.int .i64 q1, .int .i64 q2]), (.int .i64 r), (.int .i64 s), (.agg #[.int .i64 o1, .int .i64 o2])] w (Ret w (.bool true)) := by
  have hp0 := hp
  obtain ⟨⟨p, cap, rfl, -⟩, -⟩ := hp0
  have HP := Lib.hid hp
  have HV := Lib.hid hv
  have HQ := Lib.hid hq
  have HR := Lib.hid hr
  have HS := Lib.hid hs
  have H1 := Lib.hid (disc_one (l := l) (q := (q1, q2)) hs.1 hsr)
  have H2 := Lib.hid (disc_neg (l := l) (q := (q1, q2)) hs.1 hsr)
  have H3 := Lib.hid (fun hr => disc_has (l := l) (q := (q1, q2)) (o := (o1, o2)) (r := r) hr)
  have H4 := Lib.hid (fun hr => disc_lacks (l := l) (q := (q1, q2)) (o := (o1, o2)) (r := r) hr)
  clear hp hv hq hr hs
  have y5 : ¬ (r < s) := by omega
  go_enter Try.func7, Try.ntmps7
  go_wp2_with fail
  refine Calls.mono (head_c _) ?_
  rintro e w1 ⟨rfl, hb1⟩
  have hB1 : Below w.heap.size w w1 := (by repeat (first | exact Below.refl _ _ | assumption | refine bstep ?_ (by assumption) | refine Below.drew ?_ | refine balloc ?_ _ | refine Below.setCell ?_ (by first | omega | (simp <;> omega)) _))
  obtain ⟨hc1, hf1⟩ := bcell hb1
  (try simp at hc1)
  have g1 := fun o => hc1 w.heap.size o (by omega)
  have g2 := fun o => hc1 (w.heap.size + 1) o (by omega)
  have hs1 := hb1.size
  (try simp at hs1)
  clear hc1 hf1
  go_wp2_with fail
  refine Calls.mono (Disc_ok _ _ _ _ l _ (HP.out.below hB1) HV.out HQ.out HR.out) ?_
  rintro e w2 ⟨rfl, hb2⟩
  have hB2 : Below w.heap.size w w2 := bstep hB1 hb2
  obtain ⟨hc2, hf2⟩ := bcell hb2
  have hs2 := hb2.size
  have ga2 := fun o => hc2 w.heap.size o (by omega)
  have gb2 := fun o => hc2 (w.heap.size + 1) o (by omega)
  clear hc2 hf2 hb2
  go_wp2_with fail
  refine Calls.mono (Disc_ok _ _ _ _ l _ (HP.out.below hB2) HV.out HQ.out HS.out) ?_
  rintro e w3 ⟨rfl, hb3⟩
  have hB3 : Below w.heap.size w w3 := bstep hB2 hb3
  obtain ⟨hc3, hf3⟩ := bcell hb3
  have hs3 := hb3.size
  have ga3 := fun o => hc3 w.heap.size o (by omega)
  have gb3 := fun o => hc3 (w.heap.size + 1) o (by omega)
  clear hc3 hf3 hb3
  have hx := di_cases (q1, q2) r l
  have hy := di_cases (q1, q2) s l
  have H1' : diL l (q1, q2) r = 1 → diL l (q1, q2) s = 1 := H1.out
  have H2' : diL l (q1, q2) r = -1 → diL l (q1, q2) s = -1 := H2.out
  have H5 : Hid (sq q1 q2 o1 o2 ≤ r * r → (diL l (q1, q2) r = 1 → 0 ≤ siL (o1, o2) l) ∧ (diL l (q1, q2) r = -1 → siL (o1, o2) l < 0)) := Lib.hid fun h => ⟨H3.out h, H4.out h⟩
  clear H1 H2 H3 H4
  generalize diL l (q1, q2) r = X at *
  generalize diL l (q1, q2) s = Y at *
  have hxy : (X = 1 ∧ Y = 1) ∨ (X = -1 ∧ Y = -1) ∨ (X = 0 ∧ Y = 1) ∨ (X = 0 ∧ Y = 0) ∨ (X = 0 ∧ Y = -1) := by
    rcases hx with h | h | h
    · exact .inl ⟨h, H1' h⟩
    · rcases hy with g | g | g <;> simp [h, g]
    · exact .inr (.inl ⟨h, H2' h⟩)
  clear hx hy H1' H2'
  rcases hxy with ⟨rfl, rfl⟩ | ⟨rfl, rfl⟩ | ⟨rfl, rfl⟩ | ⟨rfl, rfl⟩ | ⟨rfl, rfl⟩
  all_goals
    by_cases ho : ok o1 o2
    · have HO := Lib.hid ho
      clear ho
      go_wp2_with fail
      refine Calls.mono (Near_ok _ _ _ _ _ _ _ _ HO.out HQ.out HQ.out HR.out) ?_
      rintro e w4 ⟨rfl, hb4⟩
      have hB4 : Below w.heap.size w w4 := bstep hB3 hb4
      obtain ⟨hc4, hf4⟩ := bcell hb4
      have hs4 := hb4.size
      have ga4 := fun o => hc4 w.heap.size o (by omega)
      have gb4 := fun o => hc4 (w.heap.size + 1) o (by omega)
      clear hc4 hf4 hb4

      cases hN : nearB o1 o2 q1 q2 q1 q2 r
      · go_wp2
        go_ret
        exact ⟨rfl, (by repeat (first | exact Below.refl _ _ | assumption | refine bstep ?_ (by assumption) | refine Below.drew ?_ | refine balloc ?_ _ | refine Below.setCell ?_ (by first | omega | (simp <;> omega)) _))⟩
      · have h6 := H5.out (near_self hN)
        have HN := Lib.hid hN
        clear hN H5
        have HX := Lib.hid h6
        clear h6
        go_wp2_with fail
        refine Calls.mono (In_ok _ _ _ l _ (HP.out.below hB4) HO.out HV.out) ?_
        rintro e w5 ⟨rfl, hb5⟩
        have hz := si_cases (o1, o2) l
        have h7 := HX.out
        clear HX
        generalize siL (o1, o2) l = Z at *
        rcases hz with rfl | rfl | rfl
        all_goals (first | (exfalso; revert h7; decide) | (clear h7; go_wp2; go_ret; exact ⟨rfl, (by repeat (first | exact Below.refl _ _ | assumption | refine bstep ?_ (by assumption) | refine Below.drew ?_ | refine balloc ?_ _ | refine Below.setCell ?_ (by first | omega | (simp <;> omega)) _))⟩))
    · have HO := Lib.hid ho
      clear ho
      go_wp2_with fail
      refine Calls.mono (Near_no _ _ _ _ _ _ _ _ (fun h => HO.out h.1)) ?_
      rintro e w4 ⟨rfl, hb4⟩
      go_wp2
      go_ret
      exact ⟨rfl, (by repeat (first | exact Below.refl _ _ | assumption | refine bstep ?_ (by assumption) | refine Below.drew ?_ | refine balloc ?_ _ | refine Below.setCell ?_ (by first | omega | (simp <;> omega)) _))⟩
theorem disclaw_c (w : World) (v : Value) (l : List Pt) (hp : Pts w v l) (q1 q2 r s o1 o2 : Int) : Calls Try.prog 7 #[v, (.agg #[.int .i64 q1, .int .i64 q2]), (.int .i64 r), (.int .i64 s), (.agg #[.int .i64 o1, .int .i64 o2])] w (Ret w (.bool true)) := by
  by_cases h1 : vaL l = true ∧ ok q1 q2 ∧ okd r
  · by_cases h2 : vaL l = true ∧ ok q1 q2 ∧ okd s
    · by_cases h3 : r < s
      · exact disclaw_bad w v l hp q1 q2 r s o1 o2 (.inr (.inr h3))
      · exact disclaw_ok w v l hp q1 q2 r s o1 o2 h1.2.1 h1.2.2 h2.2.2 (by omega) h1.1
    · exact disclaw_bad w v l hp q1 q2 r s o1 o2 (.inr (.inl h2))
  · exact disclaw_bad w v l hp q1 q2 r s o1 o2 (.inl h1)

end Go.Proofs.Ytphcmdmfjhjidaa.Po
