/- FeaX: equal places. -/
import Derived.Test.YtfgajejhjbfhjaaGreatGl
import Derived.Test.YtfgajejhjbfhjaaGreatRows
import Derived.WalkKit
import Derived.WalkSpells
import Derived.WalkLawsBesides
import Derived.Lib.Hide
import Derived.Deep.QuietTactic
import Derived.BigQuiet
import Derived.RegionTactic
import Derived.ChangeAlike
import Derived.BigRegion
import Derived.Deep.RegionHeld3
import Derived.Deep.RegionWith
import Derived.Outline
import Derived.IntWalk
import Derived.Deep.DeepCutAuto
import Derived.LoopTactic
import Derived.OwnWalk
import Derived.Laws.OwnMore
section
namespace Go.Proofs.YtfgajejhjbfhjaaGreat.Fe
open Go.RowKit
set_option linter.unusedSimpArgs false
set_option linter.unusedVariables false

theorem below_dn2 {B n : Nat} {a b : World} (h : Below B a b) : Below B a (b.drewN n) := ⟨h.os, h.tape, h.output, h.size, h.block⟩
set_option maxRecDepth 100000 in
set_option maxHeartbeats 6400000 in
theorem eqP_c (v u : Value) (l m : List Po.Pt) (w : World) (hv : Po.Pts w v l) (hu : Po.Pts w u m) : Calls Tryz.prog 40 #[v, u] w (Ret w (.bool (decide (l = m)))) := by
  obtain ⟨⟨p, cp, rfl, hp⟩, hl⟩ := hv
  obtain ⟨⟨q, cq, rfl, hq⟩, hm⟩ := hu
  have HP := Lib.hid hp
  have HQ := Lib.hid hq
  clear hp hq
  by_cases hlm : l.length = m.length
  · have HL := Lib.hid hlm
    have hn : ∃ n, m.length = n := ⟨_, rfl⟩
    obtain ⟨n, hn⟩ := hn
    rw [hlm]
    rw [hn] at hm ⊢
    have HN := Lib.hid hn
    clear hn hl hlm
    go_enter Tryz.func40, Tryz.ntmps40
    go_wp2
    go_loopw [13] (fun i wr => ∃ k : Nat, i = (.int .i64 k) ∧ k ≤ n ∧ Hid (∀ j, j < k → Po.gp l j = Po.gp m j) ∧ Below w.heap.size w wr) (fun i _ => n - (intOf i).toNat)
    case atStart => exact ⟨0, rfl, by omega, Lib.hid (fun j hj => by omega), Below.refl _ _⟩
    case round =>
      obtain ⟨k, rfl, hk, HA, hbel⟩ := hrel
      by_cases hlt : k < n
      · have hkl : k < l.length := by have := HL.out; have := HN.out; omega
        have hkm : k < m.length := by have := HN.out; omega
        obtain ⟨b, off, rfl, hr⟩ := HP.out (by omega)
        obtain ⟨c, of2, rfl, hs⟩ := HQ.out (by omega)
        have hr2 := hr.below (hr.lt (by omega)) hbel
        have hs2 := hs.below (hs.lt (by omega)) hbel
        obtain ⟨d0, d1⟩ := hr2 k hkl
        obtain ⟨e0, e1⟩ := hs2 k hkm
        clear hr hs hr2 hs2 hkl hkm
        have HB := Lib.hid hbel
        clear hbel
        by_cases he : Po.gp l k = Po.gp m k
        · rw [he] at d0 d1
          have HE := Lib.hid he
          clear he
          generalize (Po.gp m k).1 = x0 at *
          generalize (Po.gp m k).2 = x1 at *
          go_wp2_with fail
          go_quiet (fail)
          go_wp2_with fail
          go_roundw
          case rel =>
            refine ⟨k + 1, by go_num, by omega, Lib.hid (fun j hj => ?_), below_dn2 HB.out⟩
            rcases Nat.lt_or_ge j k with h | h
            · exact HA.out j h
            · obtain rfl : j = k := by omega
              exact HE.out
          case measure => simp [intOf]; omega
        · have HE := Lib.hid he
          have hne : (True) ∧ (Po.gp l k).1 ≠ (Po.gp m k).1 ∨ (True ∧ (Po.gp l k).1 = (Po.gp m k).1) ∧ (Po.gp l k).2 ≠ (Po.gp m k).2 := by
            rcases Decidable.em ((Po.gp l k).1 = (Po.gp m k).1) with h0 | h0
            rotate_left
            · exact .inl ⟨trivial, h0⟩
            rcases Decidable.em ((Po.gp l k).2 = (Po.gp m k).2) with h1 | h1
            rotate_left
            · exact .inr (⟨⟨trivial, h0⟩, h1⟩)
            exact absurd (Prod.ext h0 h1) he
          clear he
          generalize (Po.gp l k).1 = x0 at *
          generalize (Po.gp m k).1 = y0 at *
          generalize (Po.gp l k).2 = x1 at *
          generalize (Po.gp m k).2 = y1 at *
          rcases hne with ⟨hh, h0⟩ | ⟨hh, h1⟩
          · have g : (x0 == y0) = false := by rw [beq_eq_false_iff_ne]; exact h0
            have g2 : ¬ (x0 = y0) := h0
            clear h0
            go_wp2_with fail
            go_quiet (fail)
            go_wp2
            go_ret
            have e : decide (l = m) = false := decide_eq_false (fun e => HE.out (by rw [e]))
            rw [e]
            exact ⟨rfl, below_dn2 HB.out⟩
          · obtain ⟨_, rfl⟩ := hh
            have g : (x1 == y1) = false := by rw [beq_eq_false_iff_ne]; exact h1
            have g2 : ¬ (x1 = y1) := h1
            clear h1
            go_wp2_with fail
            go_quiet (fail)
            go_wp2
            go_ret
            have e : decide (l = m) = false := decide_eq_false (fun e => HE.out (by rw [e]))
            rw [e]
            exact ⟨rfl, below_dn2 HB.out⟩
      · obtain rfl : k = n := by omega
        have HB := Lib.hid hbel
        clear hbel
        go_wp2
        go_ret
        have e : decide (l = m) = true := by
          refine decide_eq_true (List.ext_getElem HL.out fun i h1 h2 => ?_)
          have := HA.out i (by have := HN.out; omega)
          simpa [Po.gp, List.getD_eq_getElem?_getD, h1, h2] using this
        rw [e]
        exact ⟨rfl, HB.out⟩
  · have e : decide (l = m) = false := decide_eq_false (fun e => hlm (by rw [e]))
    rw [e]
    have g : ((l.length : Int) == (m.length : Int)) = false := by rw [beq_eq_false_iff_ne]; omega
    have g2 : (l.length == m.length) = false := by rw [beq_eq_false_iff_ne]; omega
    have g3 : ¬ (l.length = m.length) := hlm
    clear e hlm
    go_enter Tryz.func40, Tryz.ntmps40
    go_wp2
    go_ret
    exact ⟨rfl, (by repeat (first | with_reducible exact Below.refl _ _ | with_reducible assumption | with_reducible refine Below.setCell ?_ (by first | omega | (simp <;> omega)) _ | with_reducible refine balloc ?_ _ | with_reducible refine Below.drew ?_ | with_reducible refine bstep ?_ (by with_reducible assumption)))⟩


end Go.Proofs.YtfgajejhjbfhjaaGreat.Fe
end

section
namespace Go.Proofs.YtfgajejhjbfhjaaGreat.Fe
open Go.RowKit
set_option linter.unusedSimpArgs false
set_option linter.unusedVariables false

set_option maxRecDepth 100000 in
set_option maxHeartbeats 6400000 in
theorem eqS_c (v u : Value) (l m : List Se.Sec) (w : World) (hv : Se.Secs w v l) (hu : Se.Secs w u m) : Calls Tryz.prog 41 #[v, u] w (Ret w (.bool (decide (l = m)))) := by
  obtain ⟨⟨p, cp, rfl, _, _, hp⟩, hl⟩ := hv
  obtain ⟨⟨q, cq, rfl, _, _, hq⟩, hm⟩ := hu
  have HP := Lib.hid hp
  have HQ := Lib.hid hq
  clear hp hq
  by_cases hlm : l.length = m.length
  · have HL := Lib.hid hlm
    have hn : ∃ n, m.length = n := ⟨_, rfl⟩
    obtain ⟨n, hn⟩ := hn
    rw [hlm]
    rw [hn] at hm ⊢
    have HN := Lib.hid hn
    clear hn hl hlm
    go_enter Tryz.func41, Tryz.ntmps41
    go_wp2
    go_loopw [13] (fun i wr => ∃ k : Nat, i = (.int .i64 k) ∧ k ≤ n ∧ Hid (∀ j, j < k → Se.gs l j = Se.gs m j) ∧ Below w.heap.size w wr) (fun i _ => n - (intOf i).toNat)
    case atStart => exact ⟨0, rfl, by omega, Lib.hid (fun j hj => by omega), Below.refl _ _⟩
    case round =>
      obtain ⟨k, rfl, hk, HA, hbel⟩ := hrel
      by_cases hlt : k < n
      · have hkl : k < l.length := by have := HL.out; have := HN.out; omega
        have hkm : k < m.length := by have := HN.out; omega
        obtain ⟨b, off, rfl, hr⟩ := HP.out (by omega)
        obtain ⟨c, of2, rfl, hs⟩ := HQ.out (by omega)
        have hr2 := hr.below (hr.lt (by omega)) hbel
        have hs2 := hs.below (hs.lt (by omega)) hbel
        obtain ⟨d0, d1, d2, d3, d4, d5⟩ := hr2 k hkl
        obtain ⟨e0, e1, e2, e3, e4, e5⟩ := hs2 k hkm
        clear hr hs hr2 hs2 hkl hkm
        have HB := Lib.hid hbel
        clear hbel
        by_cases he : Se.gs l k = Se.gs m k
        · rw [he] at d0 d1 d2 d3 d4 d5
          have HE := Lib.hid he
          clear he
          generalize (Se.gs m k).fx = x0 at *
          generalize (Se.gs m k).fy = x1 at *
          generalize (Se.gs m k).tx = x2 at *
          generalize (Se.gs m k).ty = x3 at *
          generalize (Se.gs m k).co = x4 at *
          generalize (Se.gs m k).ra = x5 at *
          go_wp2_with fail
          go_quiet (fail)
          go_wp2_with fail
          go_roundw
          case rel =>
            refine ⟨k + 1, by go_num, by omega, Lib.hid (fun j hj => ?_), below_dn2 HB.out⟩
            rcases Nat.lt_or_ge j k with h | h
            · exact HA.out j h
            · obtain rfl : j = k := by omega
              exact HE.out
          case measure => simp [intOf]; omega
        · have HE := Lib.hid he
          have hne : (True) ∧ (Se.gs l k).fx ≠ (Se.gs m k).fx ∨ (True ∧ (Se.gs l k).fx = (Se.gs m k).fx) ∧ (Se.gs l k).fy ≠ (Se.gs m k).fy ∨ (True ∧ (Se.gs l k).fx = (Se.gs m k).fx ∧ (Se.gs l k).fy = (Se.gs m k).fy) ∧ (Se.gs l k).tx ≠ (Se.gs m k).tx ∨ (True ∧ (Se.gs l k).fx = (Se.gs m k).fx ∧ (Se.gs l k).fy = (Se.gs m k).fy ∧ (Se.gs l k).tx = (Se.gs m k).tx) ∧ (Se.gs l k).ty ≠ (Se.gs m k).ty ∨ (True ∧ (Se.gs l k).fx = (Se.gs m k).fx ∧ (Se.gs l k).fy = (Se.gs m k).fy ∧ (Se.gs l k).tx = (Se.gs m k).tx ∧ (Se.gs l k).ty = (Se.gs m k).ty) ∧ (Se.gs l k).co ≠ (Se.gs m k).co ∨ (True ∧ (Se.gs l k).fx = (Se.gs m k).fx ∧ (Se.gs l k).fy = (Se.gs m k).fy ∧ (Se.gs l k).tx = (Se.gs m k).tx ∧ (Se.gs l k).ty = (Se.gs m k).ty ∧ (Se.gs l k).co = (Se.gs m k).co) ∧ (Se.gs l k).ra ≠ (Se.gs m k).ra := by
            rcases Decidable.em ((Se.gs l k).fx = (Se.gs m k).fx) with h0 | h0
            rotate_left
            · exact .inl ⟨trivial, h0⟩
            rcases Decidable.em ((Se.gs l k).fy = (Se.gs m k).fy) with h1 | h1
            rotate_left
            · exact .inr (.inl ⟨⟨trivial, h0⟩, h1⟩)
            rcases Decidable.em ((Se.gs l k).tx = (Se.gs m k).tx) with h2 | h2
            rotate_left
            · exact .inr (.inr (.inl ⟨⟨trivial, h0, h1⟩, h2⟩))
            rcases Decidable.em ((Se.gs l k).ty = (Se.gs m k).ty) with h3 | h3
            rotate_left
            · exact .inr (.inr (.inr (.inl ⟨⟨trivial, h0, h1, h2⟩, h3⟩)))
            rcases Decidable.em ((Se.gs l k).co = (Se.gs m k).co) with h4 | h4
            rotate_left
            · exact .inr (.inr (.inr (.inr (.inl ⟨⟨trivial, h0, h1, h2, h3⟩, h4⟩))))
            rcases Decidable.em ((Se.gs l k).ra = (Se.gs m k).ra) with h5 | h5
            rotate_left
            · exact .inr (.inr (.inr (.inr (.inr (⟨⟨trivial, h0, h1, h2, h3, h4⟩, h5⟩)))))
            exact absurd (by cases hx : Se.gs l k; cases hy : Se.gs m k; rw [hx, hy] at h0 h1 h2 h3 h4 h5; dsimp only at h0 h1 h2 h3 h4 h5; subst h0 h1 h2 h3 h4 h5; rfl) he
          clear he
          generalize (Se.gs l k).fx = x0 at *
          generalize (Se.gs m k).fx = y0 at *
          generalize (Se.gs l k).fy = x1 at *
          generalize (Se.gs m k).fy = y1 at *
          generalize (Se.gs l k).tx = x2 at *
          generalize (Se.gs m k).tx = y2 at *
          generalize (Se.gs l k).ty = x3 at *
          generalize (Se.gs m k).ty = y3 at *
          generalize (Se.gs l k).co = x4 at *
          generalize (Se.gs m k).co = y4 at *
          generalize (Se.gs l k).ra = x5 at *
          generalize (Se.gs m k).ra = y5 at *
          rcases hne with ⟨hh, h0⟩ | ⟨hh, h1⟩ | ⟨hh, h2⟩ | ⟨hh, h3⟩ | ⟨hh, h4⟩ | ⟨hh, h5⟩
          · have g : (x0 == y0) = false := by rw [beq_eq_false_iff_ne]; exact h0
            have g2 : ¬ (x0 = y0) := h0
            clear h0
            go_wp2_with fail
            go_quiet (fail)
            go_wp2
            go_ret
            have e : decide (l = m) = false := decide_eq_false (fun e => HE.out (by rw [e]))
            rw [e]
            exact ⟨rfl, below_dn2 HB.out⟩
          · obtain ⟨_, rfl⟩ := hh
            have g : (x1 == y1) = false := by rw [beq_eq_false_iff_ne]; exact h1
            have g2 : ¬ (x1 = y1) := h1
            clear h1
            go_wp2_with fail
            go_quiet (fail)
            go_wp2
            go_ret
            have e : decide (l = m) = false := decide_eq_false (fun e => HE.out (by rw [e]))
            rw [e]
            exact ⟨rfl, below_dn2 HB.out⟩
          · obtain ⟨_, rfl, rfl⟩ := hh
            have g : (x2 == y2) = false := by rw [beq_eq_false_iff_ne]; exact h2
            have g2 : ¬ (x2 = y2) := h2
            clear h2
            go_wp2_with fail
            go_quiet (fail)
            go_wp2
            go_ret
            have e : decide (l = m) = false := decide_eq_false (fun e => HE.out (by rw [e]))
            rw [e]
            exact ⟨rfl, below_dn2 HB.out⟩
          · obtain ⟨_, rfl, rfl, rfl⟩ := hh
            have g : (x3 == y3) = false := by rw [beq_eq_false_iff_ne]; exact h3
            have g2 : ¬ (x3 = y3) := h3
            clear h3
            go_wp2_with fail
            go_quiet (fail)
            go_wp2
            go_ret
            have e : decide (l = m) = false := decide_eq_false (fun e => HE.out (by rw [e]))
            rw [e]
            exact ⟨rfl, below_dn2 HB.out⟩
          · obtain ⟨_, rfl, rfl, rfl, rfl⟩ := hh
            have g : (x4 == y4) = false := by rw [beq_eq_false_iff_ne]; exact h4
            have g2 : ¬ (x4 = y4) := h4
            clear h4
            go_wp2_with fail
            go_quiet (fail)
            go_wp2
            go_ret
            have e : decide (l = m) = false := decide_eq_false (fun e => HE.out (by rw [e]))
            rw [e]
            exact ⟨rfl, below_dn2 HB.out⟩
          · obtain ⟨_, rfl, rfl, rfl, rfl, rfl⟩ := hh
            have g : (x5 == y5) = false := by rw [beq_eq_false_iff_ne]; exact h5
            have g2 : ¬ (x5 = y5) := h5
            clear h5
            go_wp2_with fail
            go_quiet (fail)
            go_wp2
            go_ret
            have e : decide (l = m) = false := decide_eq_false (fun e => HE.out (by rw [e]))
            rw [e]
            exact ⟨rfl, below_dn2 HB.out⟩
      · obtain rfl : k = n := by omega
        have HB := Lib.hid hbel
        clear hbel
        go_wp2
        go_ret
        have e : decide (l = m) = true := by
          refine decide_eq_true (List.ext_getElem HL.out fun i h1 h2 => ?_)
          have := HA.out i (by have := HN.out; omega)
          simpa [Se.gs, List.getD_eq_getElem?_getD, h1, h2] using this
        rw [e]
        exact ⟨rfl, HB.out⟩
  · have e : decide (l = m) = false := decide_eq_false (fun e => hlm (by rw [e]))
    rw [e]
    have g : ((l.length : Int) == (m.length : Int)) = false := by rw [beq_eq_false_iff_ne]; omega
    have g2 : (l.length == m.length) = false := by rw [beq_eq_false_iff_ne]; omega
    have g3 : ¬ (l.length = m.length) := hlm
    clear e hlm
    go_enter Tryz.func41, Tryz.ntmps41
    go_wp2
    go_ret
    exact ⟨rfl, (by repeat (first | with_reducible exact Below.refl _ _ | with_reducible assumption | with_reducible refine Below.setCell ?_ (by first | omega | (simp <;> omega)) _ | with_reducible refine balloc ?_ _ | with_reducible refine Below.drew ?_ | with_reducible refine bstep ?_ (by with_reducible assumption)))⟩


end Go.Proofs.YtfgajejhjbfhjaaGreat.Fe
end

section
namespace Go.Proofs.YtfgajejhjbfhjaaGreat.Fe
open Go.RowKit
set_option linter.unusedSimpArgs false
set_option linter.unusedVariables false

set_option maxRecDepth 100000 in
set_option maxHeartbeats 6400000 in
theorem same_v (f1 f2 f3 f4 f5 f6 f7 g1 g2 g3 g4 g5 g6 g7 : Int) (pa1 ps1 pa2 ps2 : Option Addr) (na1 ca1 ns1 cs1 na2 ca2 ns2 cs2 : Nat) (l m : List Po.Pt) (s t : List Se.Sec) (w : World)
    (hl : Po.Pts w (.slice pa1 na1 ca1) l) (hm : Po.Pts w (.slice pa2 na2 ca2) m) (hs : Se.Secs w (.slice ps1 ns1 cs1) s) (ht : Se.Secs w (.slice ps2 ns2 cs2) t) :
    Calls Tryz.prog 16 #[(.agg #[(.int .i64 f1), (.int .i64 f2), (.int .i64 f3), (.int .i64 f4), (.int .i64 f5), .slice pa1 na1 ca1, (.int .i64 f6), (.int .i64 f7), .slice ps1 ns1 cs1]), (.agg #[(.int .i64 g1), (.int .i64 g2), (.int .i64 g3), (.int .i64 g4), (.int .i64 g5), .slice pa2 na2 ca2, (.int .i64 g6), (.int .i64 g7), .slice ps2 ns2 cs2])] w (Ret w (.bool (decide (f1 = g1) && decide (f2 = g2) && (decide (f3 = g3) && decide (f4 = g4)) && decide (f5 = g5) && decide (l = m) && decide (f6 = g6) && decide (f7 = g7) && decide (s = t)))) := by
  have HL := Lib.hid hl
  have HM := Lib.hid hm
  have HS := Lib.hid hs
  have HT := Lib.hid ht
  clear hl hm hs ht
  have CP := fun W h1 h2 => eqP_c (.slice pa1 na1 ca1) (.slice pa2 na2 ca2) l m W h1 h2
  have CS := fun W h1 h2 => eqS_c (.slice ps1 ns1 cs1) (.slice ps2 ns2 cs2) s t W h1 h2
  generalize decide (l = m) = vl at *
  generalize decide (s = t) = vs at *
  rcases Decidable.em (f1 = g1) with h | h
  · subst h
    rcases Decidable.em (f2 = g2) with h | h
    · subst h
      rcases Decidable.em (f3 = g3) with h | h
      · subst h
        rcases Decidable.em (f4 = g4) with h | h
        · subst h
          rcases Decidable.em (f5 = g5) with h | h
          · subst h
            cases vl
            · skip
              go_enter Tryz.func16, Tryz.ntmps16
              go_wp2_with (first | (go_at_call 40; refine Calls.mono (CP _ (HL.out.below (by repeat (first | with_reducible exact Below.refl _ _ | with_reducible assumption | with_reducible refine Below.setCell ?_ (by first | omega | (simp <;> omega)) _ | with_reducible refine balloc ?_ _ | with_reducible refine Below.drew ?_ | with_reducible refine bstep ?_ (by with_reducible assumption)))) (HM.out.below (by repeat (first | with_reducible exact Below.refl _ _ | with_reducible assumption | with_reducible refine Below.setCell ?_ (by first | omega | (simp <;> omega)) _ | with_reducible refine balloc ?_ _ | with_reducible refine Below.drew ?_ | with_reducible refine bstep ?_ (by with_reducible assumption))))) ?_; rintro e w1 ⟨rfl, hb1⟩; have hw1 : Below w.heap.size w w1 := (by repeat (first | with_reducible exact Below.refl _ _ | with_reducible assumption | with_reducible refine Below.setCell ?_ (by first | omega | (simp <;> omega)) _ | with_reducible refine balloc ?_ _ | with_reducible refine Below.drew ?_ | with_reducible refine bstep ?_ (by with_reducible assumption))); obtain ⟨hc1, hf1⟩ := bcell hb1; have hsz := hb1.size; (try simp at hsz); have gs0 : w.heap.size < w1.heap.size := (by first | omega | (simp <;> omega)); have gs1 : w.heap.size + 1 < w1.heap.size := (by first | omega | (simp <;> omega)); have g0 := fun o => hc1 w.heap.size o (by first | omega | (simp <;> omega)); have g1 := fun o => hc1 (w.heap.size + 1) o (by first | omega | (simp <;> omega)); clear hc1 hf1 hsz) | (go_at_call 41; refine Calls.mono (CS _ (HS.out.below (by repeat (first | with_reducible exact Below.refl _ _ | with_reducible assumption | with_reducible refine Below.setCell ?_ (by first | omega | (simp <;> omega)) _ | with_reducible refine balloc ?_ _ | with_reducible refine Below.drew ?_ | with_reducible refine bstep ?_ (by with_reducible assumption)))) (HT.out.below (by repeat (first | with_reducible exact Below.refl _ _ | with_reducible assumption | with_reducible refine Below.setCell ?_ (by first | omega | (simp <;> omega)) _ | with_reducible refine balloc ?_ _ | with_reducible refine Below.drew ?_ | with_reducible refine bstep ?_ (by with_reducible assumption))))) ?_; rintro e w2 ⟨rfl, hb2⟩))
              (try clear CP CS)
              go_ret
              refine ret_bool ?_ (by repeat (first | with_reducible exact Below.refl _ _ | with_reducible assumption | with_reducible refine Below.setCell ?_ (by first | omega | (simp <;> omega)) _ | with_reducible refine balloc ?_ _ | with_reducible refine Below.drew ?_ | with_reducible refine bstep ?_ (by with_reducible assumption)))
              simp []
            · skip
              rcases Decidable.em (f6 = g6) with h | h
              · subst h
                rcases Decidable.em (f7 = g7) with h | h
                · subst h
                  go_enter Tryz.func16, Tryz.ntmps16
                  go_wp2_with (first | (go_at_call 40; refine Calls.mono (CP _ (HL.out.below (by repeat (first | with_reducible exact Below.refl _ _ | with_reducible assumption | with_reducible refine Below.setCell ?_ (by first | omega | (simp <;> omega)) _ | with_reducible refine balloc ?_ _ | with_reducible refine Below.drew ?_ | with_reducible refine bstep ?_ (by with_reducible assumption)))) (HM.out.below (by repeat (first | with_reducible exact Below.refl _ _ | with_reducible assumption | with_reducible refine Below.setCell ?_ (by first | omega | (simp <;> omega)) _ | with_reducible refine balloc ?_ _ | with_reducible refine Below.drew ?_ | with_reducible refine bstep ?_ (by with_reducible assumption))))) ?_; rintro e w1 ⟨rfl, hb1⟩; have hw1 : Below w.heap.size w w1 := (by repeat (first | with_reducible exact Below.refl _ _ | with_reducible assumption | with_reducible refine Below.setCell ?_ (by first | omega | (simp <;> omega)) _ | with_reducible refine balloc ?_ _ | with_reducible refine Below.drew ?_ | with_reducible refine bstep ?_ (by with_reducible assumption))); obtain ⟨hc1, hf1⟩ := bcell hb1; have hsz := hb1.size; (try simp at hsz); have gs0 : w.heap.size < w1.heap.size := (by first | omega | (simp <;> omega)); have gs1 : w.heap.size + 1 < w1.heap.size := (by first | omega | (simp <;> omega)); have g0 := fun o => hc1 w.heap.size o (by first | omega | (simp <;> omega)); have g1 := fun o => hc1 (w.heap.size + 1) o (by first | omega | (simp <;> omega)); clear hc1 hf1 hsz) | (go_at_call 41; refine Calls.mono (CS _ (HS.out.below (by repeat (first | with_reducible exact Below.refl _ _ | with_reducible assumption | with_reducible refine Below.setCell ?_ (by first | omega | (simp <;> omega)) _ | with_reducible refine balloc ?_ _ | with_reducible refine Below.drew ?_ | with_reducible refine bstep ?_ (by with_reducible assumption)))) (HT.out.below (by repeat (first | with_reducible exact Below.refl _ _ | with_reducible assumption | with_reducible refine Below.setCell ?_ (by first | omega | (simp <;> omega)) _ | with_reducible refine balloc ?_ _ | with_reducible refine Below.drew ?_ | with_reducible refine bstep ?_ (by with_reducible assumption))))) ?_; rintro e w2 ⟨rfl, hb2⟩))
                  (try clear CP CS)
                  go_ret
                  refine ret_bool ?_ (by repeat (first | with_reducible exact Below.refl _ _ | with_reducible assumption | with_reducible refine Below.setCell ?_ (by first | omega | (simp <;> omega)) _ | with_reducible refine balloc ?_ _ | with_reducible refine Below.drew ?_ | with_reducible refine bstep ?_ (by with_reducible assumption)))
                  simp []
                · have h2 : (f7 == g7) = false := by rw [beq_eq_false_iff_ne]; exact h
                  have h3 : decide (f7 = g7) = false := decide_eq_false h
                  clear h
                  go_enter Tryz.func16, Tryz.ntmps16
                  go_wp2_with (first | (go_at_call 40; refine Calls.mono (CP _ (HL.out.below (by repeat (first | with_reducible exact Below.refl _ _ | with_reducible assumption | with_reducible refine Below.setCell ?_ (by first | omega | (simp <;> omega)) _ | with_reducible refine balloc ?_ _ | with_reducible refine Below.drew ?_ | with_reducible refine bstep ?_ (by with_reducible assumption)))) (HM.out.below (by repeat (first | with_reducible exact Below.refl _ _ | with_reducible assumption | with_reducible refine Below.setCell ?_ (by first | omega | (simp <;> omega)) _ | with_reducible refine balloc ?_ _ | with_reducible refine Below.drew ?_ | with_reducible refine bstep ?_ (by with_reducible assumption))))) ?_; rintro e w1 ⟨rfl, hb1⟩; have hw1 : Below w.heap.size w w1 := (by repeat (first | with_reducible exact Below.refl _ _ | with_reducible assumption | with_reducible refine Below.setCell ?_ (by first | omega | (simp <;> omega)) _ | with_reducible refine balloc ?_ _ | with_reducible refine Below.drew ?_ | with_reducible refine bstep ?_ (by with_reducible assumption))); obtain ⟨hc1, hf1⟩ := bcell hb1; have hsz := hb1.size; (try simp at hsz); have gs0 : w.heap.size < w1.heap.size := (by first | omega | (simp <;> omega)); have gs1 : w.heap.size + 1 < w1.heap.size := (by first | omega | (simp <;> omega)); have g0 := fun o => hc1 w.heap.size o (by first | omega | (simp <;> omega)); have g1 := fun o => hc1 (w.heap.size + 1) o (by first | omega | (simp <;> omega)); clear hc1 hf1 hsz) | (go_at_call 41; refine Calls.mono (CS _ (HS.out.below (by repeat (first | with_reducible exact Below.refl _ _ | with_reducible assumption | with_reducible refine Below.setCell ?_ (by first | omega | (simp <;> omega)) _ | with_reducible refine balloc ?_ _ | with_reducible refine Below.drew ?_ | with_reducible refine bstep ?_ (by with_reducible assumption)))) (HT.out.below (by repeat (first | with_reducible exact Below.refl _ _ | with_reducible assumption | with_reducible refine Below.setCell ?_ (by first | omega | (simp <;> omega)) _ | with_reducible refine balloc ?_ _ | with_reducible refine Below.drew ?_ | with_reducible refine bstep ?_ (by with_reducible assumption))))) ?_; rintro e w2 ⟨rfl, hb2⟩))
                  (try clear CP CS)
                  go_ret
                  refine ret_bool ?_ (by repeat (first | with_reducible exact Below.refl _ _ | with_reducible assumption | with_reducible refine Below.setCell ?_ (by first | omega | (simp <;> omega)) _ | with_reducible refine balloc ?_ _ | with_reducible refine Below.drew ?_ | with_reducible refine bstep ?_ (by with_reducible assumption)))
                  simp [h3]
              · have h2 : (f6 == g6) = false := by rw [beq_eq_false_iff_ne]; exact h
                have h3 : decide (f6 = g6) = false := decide_eq_false h
                clear h
                go_enter Tryz.func16, Tryz.ntmps16
                go_wp2_with (first | (go_at_call 40; refine Calls.mono (CP _ (HL.out.below (by repeat (first | with_reducible exact Below.refl _ _ | with_reducible assumption | with_reducible refine Below.setCell ?_ (by first | omega | (simp <;> omega)) _ | with_reducible refine balloc ?_ _ | with_reducible refine Below.drew ?_ | with_reducible refine bstep ?_ (by with_reducible assumption)))) (HM.out.below (by repeat (first | with_reducible exact Below.refl _ _ | with_reducible assumption | with_reducible refine Below.setCell ?_ (by first | omega | (simp <;> omega)) _ | with_reducible refine balloc ?_ _ | with_reducible refine Below.drew ?_ | with_reducible refine bstep ?_ (by with_reducible assumption))))) ?_; rintro e w1 ⟨rfl, hb1⟩; have hw1 : Below w.heap.size w w1 := (by repeat (first | with_reducible exact Below.refl _ _ | with_reducible assumption | with_reducible refine Below.setCell ?_ (by first | omega | (simp <;> omega)) _ | with_reducible refine balloc ?_ _ | with_reducible refine Below.drew ?_ | with_reducible refine bstep ?_ (by with_reducible assumption))); obtain ⟨hc1, hf1⟩ := bcell hb1; have hsz := hb1.size; (try simp at hsz); have gs0 : w.heap.size < w1.heap.size := (by first | omega | (simp <;> omega)); have gs1 : w.heap.size + 1 < w1.heap.size := (by first | omega | (simp <;> omega)); have g0 := fun o => hc1 w.heap.size o (by first | omega | (simp <;> omega)); have g1 := fun o => hc1 (w.heap.size + 1) o (by first | omega | (simp <;> omega)); clear hc1 hf1 hsz) | (go_at_call 41; refine Calls.mono (CS _ (HS.out.below (by repeat (first | with_reducible exact Below.refl _ _ | with_reducible assumption | with_reducible refine Below.setCell ?_ (by first | omega | (simp <;> omega)) _ | with_reducible refine balloc ?_ _ | with_reducible refine Below.drew ?_ | with_reducible refine bstep ?_ (by with_reducible assumption)))) (HT.out.below (by repeat (first | with_reducible exact Below.refl _ _ | with_reducible assumption | with_reducible refine Below.setCell ?_ (by first | omega | (simp <;> omega)) _ | with_reducible refine balloc ?_ _ | with_reducible refine Below.drew ?_ | with_reducible refine bstep ?_ (by with_reducible assumption))))) ?_; rintro e w2 ⟨rfl, hb2⟩))
                (try clear CP CS)
                go_ret
                refine ret_bool ?_ (by repeat (first | with_reducible exact Below.refl _ _ | with_reducible assumption | with_reducible refine Below.setCell ?_ (by first | omega | (simp <;> omega)) _ | with_reducible refine balloc ?_ _ | with_reducible refine Below.drew ?_ | with_reducible refine bstep ?_ (by with_reducible assumption)))
                simp [h3]
          · have h2 : (f5 == g5) = false := by rw [beq_eq_false_iff_ne]; exact h
            have h3 : decide (f5 = g5) = false := decide_eq_false h
            clear h
            go_enter Tryz.func16, Tryz.ntmps16
            go_wp2_with (first | (go_at_call 40; refine Calls.mono (CP _ (HL.out.below (by repeat (first | with_reducible exact Below.refl _ _ | with_reducible assumption | with_reducible refine Below.setCell ?_ (by first | omega | (simp <;> omega)) _ | with_reducible refine balloc ?_ _ | with_reducible refine Below.drew ?_ | with_reducible refine bstep ?_ (by with_reducible assumption)))) (HM.out.below (by repeat (first | with_reducible exact Below.refl _ _ | with_reducible assumption | with_reducible refine Below.setCell ?_ (by first | omega | (simp <;> omega)) _ | with_reducible refine balloc ?_ _ | with_reducible refine Below.drew ?_ | with_reducible refine bstep ?_ (by with_reducible assumption))))) ?_; rintro e w1 ⟨rfl, hb1⟩; have hw1 : Below w.heap.size w w1 := (by repeat (first | with_reducible exact Below.refl _ _ | with_reducible assumption | with_reducible refine Below.setCell ?_ (by first | omega | (simp <;> omega)) _ | with_reducible refine balloc ?_ _ | with_reducible refine Below.drew ?_ | with_reducible refine bstep ?_ (by with_reducible assumption))); obtain ⟨hc1, hf1⟩ := bcell hb1; have hsz := hb1.size; (try simp at hsz); have gs0 : w.heap.size < w1.heap.size := (by first | omega | (simp <;> omega)); have gs1 : w.heap.size + 1 < w1.heap.size := (by first | omega | (simp <;> omega)); have g0 := fun o => hc1 w.heap.size o (by first | omega | (simp <;> omega)); have g1 := fun o => hc1 (w.heap.size + 1) o (by first | omega | (simp <;> omega)); clear hc1 hf1 hsz) | (go_at_call 41; refine Calls.mono (CS _ (HS.out.below (by repeat (first | with_reducible exact Below.refl _ _ | with_reducible assumption | with_reducible refine Below.setCell ?_ (by first | omega | (simp <;> omega)) _ | with_reducible refine balloc ?_ _ | with_reducible refine Below.drew ?_ | with_reducible refine bstep ?_ (by with_reducible assumption)))) (HT.out.below (by repeat (first | with_reducible exact Below.refl _ _ | with_reducible assumption | with_reducible refine Below.setCell ?_ (by first | omega | (simp <;> omega)) _ | with_reducible refine balloc ?_ _ | with_reducible refine Below.drew ?_ | with_reducible refine bstep ?_ (by with_reducible assumption))))) ?_; rintro e w2 ⟨rfl, hb2⟩))
            (try clear CP CS)
            go_ret
            refine ret_bool ?_ (by repeat (first | with_reducible exact Below.refl _ _ | with_reducible assumption | with_reducible refine Below.setCell ?_ (by first | omega | (simp <;> omega)) _ | with_reducible refine balloc ?_ _ | with_reducible refine Below.drew ?_ | with_reducible refine bstep ?_ (by with_reducible assumption)))
            simp [h3]
        · have h2 : (f4 == g4) = false := by rw [beq_eq_false_iff_ne]; exact h
          have h3 : decide (f4 = g4) = false := decide_eq_false h
          clear h
          go_enter Tryz.func16, Tryz.ntmps16
          go_wp2_with (first | (go_at_call 40; refine Calls.mono (CP _ (HL.out.below (by repeat (first | with_reducible exact Below.refl _ _ | with_reducible assumption | with_reducible refine Below.setCell ?_ (by first | omega | (simp <;> omega)) _ | with_reducible refine balloc ?_ _ | with_reducible refine Below.drew ?_ | with_reducible refine bstep ?_ (by with_reducible assumption)))) (HM.out.below (by repeat (first | with_reducible exact Below.refl _ _ | with_reducible assumption | with_reducible refine Below.setCell ?_ (by first | omega | (simp <;> omega)) _ | with_reducible refine balloc ?_ _ | with_reducible refine Below.drew ?_ | with_reducible refine bstep ?_ (by with_reducible assumption))))) ?_; rintro e w1 ⟨rfl, hb1⟩; have hw1 : Below w.heap.size w w1 := (by repeat (first | with_reducible exact Below.refl _ _ | with_reducible assumption | with_reducible refine Below.setCell ?_ (by first | omega | (simp <;> omega)) _ | with_reducible refine balloc ?_ _ | with_reducible refine Below.drew ?_ | with_reducible refine bstep ?_ (by with_reducible assumption))); obtain ⟨hc1, hf1⟩ := bcell hb1; have hsz := hb1.size; (try simp at hsz); have gs0 : w.heap.size < w1.heap.size := (by first | omega | (simp <;> omega)); have gs1 : w.heap.size + 1 < w1.heap.size := (by first | omega | (simp <;> omega)); have g0 := fun o => hc1 w.heap.size o (by first | omega | (simp <;> omega)); have g1 := fun o => hc1 (w.heap.size + 1) o (by first | omega | (simp <;> omega)); clear hc1 hf1 hsz) | (go_at_call 41; refine Calls.mono (CS _ (HS.out.below (by repeat (first | with_reducible exact Below.refl _ _ | with_reducible assumption | with_reducible refine Below.setCell ?_ (by first | omega | (simp <;> omega)) _ | with_reducible refine balloc ?_ _ | with_reducible refine Below.drew ?_ | with_reducible refine bstep ?_ (by with_reducible assumption)))) (HT.out.below (by repeat (first | with_reducible exact Below.refl _ _ | with_reducible assumption | with_reducible refine Below.setCell ?_ (by first | omega | (simp <;> omega)) _ | with_reducible refine balloc ?_ _ | with_reducible refine Below.drew ?_ | with_reducible refine bstep ?_ (by with_reducible assumption))))) ?_; rintro e w2 ⟨rfl, hb2⟩))
          (try clear CP CS)
          go_ret
          refine ret_bool ?_ (by repeat (first | with_reducible exact Below.refl _ _ | with_reducible assumption | with_reducible refine Below.setCell ?_ (by first | omega | (simp <;> omega)) _ | with_reducible refine balloc ?_ _ | with_reducible refine Below.drew ?_ | with_reducible refine bstep ?_ (by with_reducible assumption)))
          simp [h3]
      · have h2 : (f3 == g3) = false := by rw [beq_eq_false_iff_ne]; exact h
        have h3 : decide (f3 = g3) = false := decide_eq_false h
        clear h
        go_enter Tryz.func16, Tryz.ntmps16
        go_wp2_with (first | (go_at_call 40; refine Calls.mono (CP _ (HL.out.below (by repeat (first | with_reducible exact Below.refl _ _ | with_reducible assumption | with_reducible refine Below.setCell ?_ (by first | omega | (simp <;> omega)) _ | with_reducible refine balloc ?_ _ | with_reducible refine Below.drew ?_ | with_reducible refine bstep ?_ (by with_reducible assumption)))) (HM.out.below (by repeat (first | with_reducible exact Below.refl _ _ | with_reducible assumption | with_reducible refine Below.setCell ?_ (by first | omega | (simp <;> omega)) _ | with_reducible refine balloc ?_ _ | with_reducible refine Below.drew ?_ | with_reducible refine bstep ?_ (by with_reducible assumption))))) ?_; rintro e w1 ⟨rfl, hb1⟩; have hw1 : Below w.heap.size w w1 := (by repeat (first | with_reducible exact Below.refl _ _ | with_reducible assumption | with_reducible refine Below.setCell ?_ (by first | omega | (simp <;> omega)) _ | with_reducible refine balloc ?_ _ | with_reducible refine Below.drew ?_ | with_reducible refine bstep ?_ (by with_reducible assumption))); obtain ⟨hc1, hf1⟩ := bcell hb1; have hsz := hb1.size; (try simp at hsz); have gs0 : w.heap.size < w1.heap.size := (by first | omega | (simp <;> omega)); have gs1 : w.heap.size + 1 < w1.heap.size := (by first | omega | (simp <;> omega)); have g0 := fun o => hc1 w.heap.size o (by first | omega | (simp <;> omega)); have g1 := fun o => hc1 (w.heap.size + 1) o (by first | omega | (simp <;> omega)); clear hc1 hf1 hsz) | (go_at_call 41; refine Calls.mono (CS _ (HS.out.below (by repeat (first | with_reducible exact Below.refl _ _ | with_reducible assumption | with_reducible refine Below.setCell ?_ (by first | omega | (simp <;> omega)) _ | with_reducible refine balloc ?_ _ | with_reducible refine Below.drew ?_ | with_reducible refine bstep ?_ (by with_reducible assumption)))) (HT.out.below (by repeat (first | with_reducible exact Below.refl _ _ | with_reducible assumption | with_reducible refine Below.setCell ?_ (by first | omega | (simp <;> omega)) _ | with_reducible refine balloc ?_ _ | with_reducible refine Below.drew ?_ | with_reducible refine bstep ?_ (by with_reducible assumption))))) ?_; rintro e w2 ⟨rfl, hb2⟩))
        (try clear CP CS)
        go_ret
        refine ret_bool ?_ (by repeat (first | with_reducible exact Below.refl _ _ | with_reducible assumption | with_reducible refine Below.setCell ?_ (by first | omega | (simp <;> omega)) _ | with_reducible refine balloc ?_ _ | with_reducible refine Below.drew ?_ | with_reducible refine bstep ?_ (by with_reducible assumption)))
        simp [h3]
    · have h2 : (f2 == g2) = false := by rw [beq_eq_false_iff_ne]; exact h
      have h3 : decide (f2 = g2) = false := decide_eq_false h
      clear h
      go_enter Tryz.func16, Tryz.ntmps16
      go_wp2_with (first | (go_at_call 40; refine Calls.mono (CP _ (HL.out.below (by repeat (first | with_reducible exact Below.refl _ _ | with_reducible assumption | with_reducible refine Below.setCell ?_ (by first | omega | (simp <;> omega)) _ | with_reducible refine balloc ?_ _ | with_reducible refine Below.drew ?_ | with_reducible refine bstep ?_ (by with_reducible assumption)))) (HM.out.below (by repeat (first | with_reducible exact Below.refl _ _ | with_reducible assumption | with_reducible refine Below.setCell ?_ (by first | omega | (simp <;> omega)) _ | with_reducible refine balloc ?_ _ | with_reducible refine Below.drew ?_ | with_reducible refine bstep ?_ (by with_reducible assumption))))) ?_; rintro e w1 ⟨rfl, hb1⟩; have hw1 : Below w.heap.size w w1 := (by repeat (first | with_reducible exact Below.refl _ _ | with_reducible assumption | with_reducible refine Below.setCell ?_ (by first | omega | (simp <;> omega)) _ | with_reducible refine balloc ?_ _ | with_reducible refine Below.drew ?_ | with_reducible refine bstep ?_ (by with_reducible assumption))); obtain ⟨hc1, hf1⟩ := bcell hb1; have hsz := hb1.size; (try simp at hsz); have gs0 : w.heap.size < w1.heap.size := (by first | omega | (simp <;> omega)); have gs1 : w.heap.size + 1 < w1.heap.size := (by first | omega | (simp <;> omega)); have g0 := fun o => hc1 w.heap.size o (by first | omega | (simp <;> omega)); have g1 := fun o => hc1 (w.heap.size + 1) o (by first | omega | (simp <;> omega)); clear hc1 hf1 hsz) | (go_at_call 41; refine Calls.mono (CS _ (HS.out.below (by repeat (first | with_reducible exact Below.refl _ _ | with_reducible assumption | with_reducible refine Below.setCell ?_ (by first | omega | (simp <;> omega)) _ | with_reducible refine balloc ?_ _ | with_reducible refine Below.drew ?_ | with_reducible refine bstep ?_ (by with_reducible assumption)))) (HT.out.below (by repeat (first | with_reducible exact Below.refl _ _ | with_reducible assumption | with_reducible refine Below.setCell ?_ (by first | omega | (simp <;> omega)) _ | with_reducible refine balloc ?_ _ | with_reducible refine Below.drew ?_ | with_reducible refine bstep ?_ (by with_reducible assumption))))) ?_; rintro e w2 ⟨rfl, hb2⟩))
      (try clear CP CS)
      go_ret
      refine ret_bool ?_ (by repeat (first | with_reducible exact Below.refl _ _ | with_reducible assumption | with_reducible refine Below.setCell ?_ (by first | omega | (simp <;> omega)) _ | with_reducible refine balloc ?_ _ | with_reducible refine Below.drew ?_ | with_reducible refine bstep ?_ (by with_reducible assumption)))
      simp [h3]
  · have h2 : (f1 == g1) = false := by rw [beq_eq_false_iff_ne]; exact h
    have h3 : decide (f1 = g1) = false := decide_eq_false h
    clear h
    go_enter Tryz.func16, Tryz.ntmps16
    go_wp2_with (first | (go_at_call 40; refine Calls.mono (CP _ (HL.out.below (by repeat (first | with_reducible exact Below.refl _ _ | with_reducible assumption | with_reducible refine Below.setCell ?_ (by first | omega | (simp <;> omega)) _ | with_reducible refine balloc ?_ _ | with_reducible refine Below.drew ?_ | with_reducible refine bstep ?_ (by with_reducible assumption)))) (HM.out.below (by repeat (first | with_reducible exact Below.refl _ _ | with_reducible assumption | with_reducible refine Below.setCell ?_ (by first | omega | (simp <;> omega)) _ | with_reducible refine balloc ?_ _ | with_reducible refine Below.drew ?_ | with_reducible refine bstep ?_ (by with_reducible assumption))))) ?_; rintro e w1 ⟨rfl, hb1⟩; have hw1 : Below w.heap.size w w1 := (by repeat (first | with_reducible exact Below.refl _ _ | with_reducible assumption | with_reducible refine Below.setCell ?_ (by first | omega | (simp <;> omega)) _ | with_reducible refine balloc ?_ _ | with_reducible refine Below.drew ?_ | with_reducible refine bstep ?_ (by with_reducible assumption))); obtain ⟨hc1, hf1⟩ := bcell hb1; have hsz := hb1.size; (try simp at hsz); have gs0 : w.heap.size < w1.heap.size := (by first | omega | (simp <;> omega)); have gs1 : w.heap.size + 1 < w1.heap.size := (by first | omega | (simp <;> omega)); have g0 := fun o => hc1 w.heap.size o (by first | omega | (simp <;> omega)); have g1 := fun o => hc1 (w.heap.size + 1) o (by first | omega | (simp <;> omega)); clear hc1 hf1 hsz) | (go_at_call 41; refine Calls.mono (CS _ (HS.out.below (by repeat (first | with_reducible exact Below.refl _ _ | with_reducible assumption | with_reducible refine Below.setCell ?_ (by first | omega | (simp <;> omega)) _ | with_reducible refine balloc ?_ _ | with_reducible refine Below.drew ?_ | with_reducible refine bstep ?_ (by with_reducible assumption)))) (HT.out.below (by repeat (first | with_reducible exact Below.refl _ _ | with_reducible assumption | with_reducible refine Below.setCell ?_ (by first | omega | (simp <;> omega)) _ | with_reducible refine balloc ?_ _ | with_reducible refine Below.drew ?_ | with_reducible refine bstep ?_ (by with_reducible assumption))))) ?_; rintro e w2 ⟨rfl, hb2⟩))
    (try clear CP CS)
    go_ret
    refine ret_bool ?_ (by repeat (first | with_reducible exact Below.refl _ _ | with_reducible assumption | with_reducible refine Below.setCell ?_ (by first | omega | (simp <;> omega)) _ | with_reducible refine balloc ?_ _ | with_reducible refine Below.drew ?_ | with_reducible refine bstep ?_ (by with_reducible assumption)))
    simp [h3]

/-- All fields are equal. -/
def saF (f g : Fe) : Bool := decide (f.id = g.id) && decide (f.ki = g.ki) && (decide (f.x = g.x) && decide (f.y = g.y)) && decide (f.ra = g.ra) && decide (f.ar = g.ar) && decide (f.de = g.de) && decide (f.sy = g.sy) && decide (f.se = g.se)
theorem saF_iff {f g : Fe} : saF f g = true ↔ f = g := by
  cases f
  cases g
  simp [saF, and_assoc]
theorem Same_c (v u : Value) (f g : Fe) (w : World) (hv : FeV w v f) (hu : FeV w u g) : Calls Tryz.prog 16 #[v, u] w (Ret w (.bool (saF f g))) := by
  obtain ⟨⟨pa1, ps1, ca1, cs1, rfl, h1, h2⟩, h3⟩ := hv
  obtain ⟨⟨pa2, ps2, ca2, cs2, rfl, k1, k2⟩, k3⟩ := hu
  exact same_v _ _ _ _ _ _ _ _ _ _ _ _ _ _ _ _ _ _ _ _ _ _ _ _ _ _ f.ar g.ar f.se g.se w h1 k1 h2 k2

end Go.Proofs.YtfgajejhjbfhjaaGreat.Fe
end

section
namespace Go.Proofs.YtfgajejhjbfhjaaGreat.Fe
open Go.RowKit
set_option linter.unusedSimpArgs false
set_option linter.unusedVariables false

def SoOk (f : Fe) (w : World) (e : Ending) (w' : World) : Prop := ∃ u, e = .returned (.tuple #[u, (.bool true)]) ∧ ShV w' u (shF f) ∧ Below w.heap.size w w'
def SoNo (w : World) (e : Ending) (w' : World) : Prop := ∃ u, e = .returned (.tuple #[u, (.bool false)]) ∧ Below w.heap.size w w'
theorem so_ok (v : Value) (f : Fe) (w : World) (hf : vaF f = true) (h : FeV w v f) : Calls Tryz.prog 33 #[v] w (SoOk f w) :=
  (shapeOf_c v f w h).mono fun e w' ⟨u, he, hu, hb⟩ => ⟨u, by rw [hf] at he; exact he, hu hf, hb⟩
theorem so_no (v : Value) (f : Fe) (w : World) (hf : vaF f = false) (h : FeV w v f) : Calls Tryz.prog 33 #[v] w (SoNo w) :=
  (shapeOf_c v f w h).mono fun e w' ⟨u, he, _, hb⟩ => ⟨u, by rw [hf] at he; exact he, hb⟩

set_option maxRecDepth 100000 in
set_option maxHeartbeats 1600000 in
theorem stands1_ld (x1 x2 : Int) (ps : Option Addr) (ns cs : Nat) (e1 e2 e3 : Int) (bg bf : Nat) (dg df : Int) (w : World)  (kg : w.cell? ⟨bg, 6, none⟩ = some (.int .i64 dg)) (kf : w.cell? ⟨bf, 6, none⟩ = some (.int .i64 df)) : Calls Tryz.prog 49 #[.iface 75 (.agg #[(.int .i64 x1), (.int .i64 x2), .slice ps ns cs]), .iface 81 (.agg #[(.int .i64 e1), (.int .i64 e2), (.int .i64 e3)]), .pointer (some ⟨bg, 0, none⟩), .pointer (some ⟨bf, 0, none⟩)] w (Ret w (.bool false)) := by
  have gg : bg < w.heap.size := World.block_lt_of_cell? _ _ kg
  have gf : bf < w.heap.size := World.block_lt_of_cell? _ _ kf
  have T := fun W => ta_ll x1 x2 (.slice ps ns cs) W
  go_enter Tryz.func49, Tryz.ntmps49
  go_wp2_with fail
  refine Calls.mono (yd_c _ _ _ e1 e2 e3 _) ?_
  rintro e w1 ⟨rfl, hb1⟩
  clear T
  go_wp2
  go_ret
  exact ⟨rfl, (by repeat (first | with_reducible exact Below.refl _ _ | with_reducible assumption | with_reducible refine Below.setCell ?_ (by first | omega | (simp <;> omega)) _ | with_reducible refine balloc ?_ _ | with_reducible refine Below.drew ?_ | with_reducible refine bstep ?_ (by with_reducible assumption)))⟩

set_option maxRecDepth 100000 in
set_option maxHeartbeats 1600000 in
theorem stands1_lp (x1 x2 : Int) (ps : Option Addr) (ns cs : Nat) (qa : Option Addr) (ma da : Nat) (bg bf : Nat) (dg df : Int) (w : World)  (kg : w.cell? ⟨bg, 6, none⟩ = some (.int .i64 dg)) (kf : w.cell? ⟨bf, 6, none⟩ = some (.int .i64 df)) : Calls Tryz.prog 49 #[.iface 75 (.agg #[(.int .i64 x1), (.int .i64 x2), .slice ps ns cs]), .iface 82 (.slice qa ma da), .pointer (some ⟨bg, 0, none⟩), .pointer (some ⟨bf, 0, none⟩)] w (Ret w (.bool false)) := by
  have gg : bg < w.heap.size := World.block_lt_of_cell? _ _ kg
  have gf : bf < w.heap.size := World.block_lt_of_cell? _ _ kf
  have T := fun W => ta_ll x1 x2 (.slice ps ns cs) W
  go_enter Tryz.func49, Tryz.ntmps49
  go_wp2_with fail
  refine Calls.mono (yp_c _ _ _ qa ma da _) ?_
  rintro e w1 ⟨rfl, hb1⟩
  clear T
  go_wp2
  go_ret
  exact ⟨rfl, (by repeat (first | with_reducible exact Below.refl _ _ | with_reducible assumption | with_reducible refine Below.setCell ?_ (by first | omega | (simp <;> omega)) _ | with_reducible refine balloc ?_ _ | with_reducible refine Below.drew ?_ | with_reducible refine bstep ?_ (by with_reducible assumption)))⟩

set_option maxRecDepth 100000 in
set_option maxHeartbeats 1600000 in
theorem stands1_ll (x1 x2 : Int) (ps : Option Addr) (ns cs : Nat) (y1 y2 : Int) (qs : Option Addr) (ms ds : Nat) (l m : List Se.Sec) (bg bf : Nat) (dg df : Int) (w : World) (hl : Se.Secs w (.slice ps ns cs) l) (hm : Se.Secs w (.slice qs ms ds) m) (vl : Se.vaL l = true) (vm : Se.vaL m = true) (kg : w.cell? ⟨bg, 6, none⟩ = some (.int .i64 dg)) (kf : w.cell? ⟨bf, 6, none⟩ = some (.int .i64 df)) : Calls Tryz.prog 49 #[.iface 75 (.agg #[(.int .i64 x1), (.int .i64 x2), .slice ps ns cs]), .iface 75 (.agg #[(.int .i64 y1), (.int .i64 y2), .slice qs ms ds]), .pointer (some ⟨bg, 0, none⟩), .pointer (some ⟨bf, 0, none⟩)] w (Ret w (.bool (decide (y1 = x1) && decide (y2 = x2) && Se.hoL m l 1))) := by
  have gg : bg < w.heap.size := World.block_lt_of_cell? _ _ kg
  have gf : bf < w.heap.size := World.block_lt_of_cell? _ _ kf
  have T := fun W => ta_ll x1 x2 (.slice ps ns cs) W
  have HL := Lib.hid hl
  have HM := Lib.hid hm
  clear hl hm
  go_enter Tryz.func49, Tryz.ntmps49
  go_wp2_with fail
  refine Calls.mono (yl_c x1 x2 y1 y2 _ qs ms ds l m _ (HL.out.below (by repeat (first | with_reducible exact Below.refl _ _ | with_reducible assumption | with_reducible refine Below.setCell ?_ (by first | omega | (simp <;> omega)) _ | with_reducible refine balloc ?_ _ | with_reducible refine Below.drew ?_ | with_reducible refine bstep ?_ (by with_reducible assumption)))) (HM.out.below (by repeat (first | with_reducible exact Below.refl _ _ | with_reducible assumption | with_reducible refine Below.setCell ?_ (by first | omega | (simp <;> omega)) _ | with_reducible refine balloc ?_ _ | with_reducible refine Below.drew ?_ | with_reducible refine bstep ?_ (by with_reducible assumption)))) vl vm) ?_
  rintro e w1 ⟨rfl, hb1⟩
  clear T
  go_wp2
  go_ret
  exact ⟨rfl, (by repeat (first | with_reducible exact Below.refl _ _ | with_reducible assumption | with_reducible refine Below.setCell ?_ (by first | omega | (simp <;> omega)) _ | with_reducible refine balloc ?_ _ | with_reducible refine Below.drew ?_ | with_reducible refine bstep ?_ (by with_reducible assumption)))⟩

def noL : Sh → Bool
  | .lig _ _ _ => false
  | _ => true

set_option maxRecDepth 100000 in
set_option maxHeartbeats 1600000 in
theorem stands1_nd (d1 d2 d3 : Int) (v : Value) (t : Sh) (bg bf : Nat) (dg df : Int) (w : World) (hd : ok d1 d2) (h3 : 0 ≤ d3 ∧ d3 ≤ 100000) (ht : ShV w v t) (kg : w.cell? ⟨bg, 6, none⟩ = some (.int .i64 dg)) (kf : w.cell? ⟨bf, 6, none⟩ = some (.int .i64 df)) : Calls Tryz.prog 49 #[.iface 81 (.agg #[(.int .i64 d1), (.int .i64 d2), (.int .i64 d3)]), v, .pointer (some ⟨bg, 0, none⟩), .pointer (some ⟨bf, 0, none⟩)] w (Ret w (.bool (hoS t (.dis d1 d2 d3) && decide (dg ≤ df)))) := by
  have gg : bg < w.heap.size := World.block_lt_of_cell? _ _ kg
  have gf : bf < w.heap.size := World.block_lt_of_cell? _ _ kf
  have T := fun W => ta_dl d1 d2 d3 W
  have HS := Lib.hid (show ShV w (.iface 81 (.agg #[(.int .i64 d1), (.int .i64 d2), (.int .i64 d3)])) (.dis d1 d2 d3) from ⟨rfl, hd, h3⟩)
  have HT := Lib.hid ht
  clear ht
  have C := fun W h1 h2 => holds_c v (.iface 81 (.agg #[(.int .i64 d1), (.int .i64 d2), (.int .i64 d3)])) t (.dis d1 d2 d3) W h1 h2
  generalize hoS t (.dis d1 d2 d3) = r at *
  cases r
  all_goals
    go_enter Tryz.func49, Tryz.ntmps49
    go_wp2_with (first | (go_at_call 47; refine Calls.mono (C _ (HT.out.below (by repeat (first | with_reducible exact Below.refl _ _ | with_reducible assumption | with_reducible refine Below.setCell ?_ (by first | omega | (simp <;> omega)) _ | with_reducible refine balloc ?_ _ | with_reducible refine Below.drew ?_ | with_reducible refine bstep ?_ (by with_reducible assumption)))) (HS.out.below (by repeat (first | with_reducible exact Below.refl _ _ | with_reducible assumption | with_reducible refine Below.setCell ?_ (by first | omega | (simp <;> omega)) _ | with_reducible refine balloc ?_ _ | with_reducible refine Below.drew ?_ | with_reducible refine bstep ?_ (by with_reducible assumption))))) ?_; rintro e w1 ⟨rfl, hb1⟩; obtain ⟨hc1, hf1⟩ := bcell hb1; have hsz := hb1.size; (try simp at hsz); have g0 := fun o => hc1 bg o (by first | omega | (simp <;> omega)); have g1 := fun o => hc1 bf o (by first | omega | (simp <;> omega)); clear hc1 hf1))
    (try clear T C)
    go_ret
    refine ret_bool ?_ (by repeat (first | with_reducible exact Below.refl _ _ | with_reducible assumption | with_reducible refine Below.setCell ?_ (by first | omega | (simp <;> omega)) _ | with_reducible refine balloc ?_ _ | with_reducible refine Below.drew ?_ | with_reducible refine bstep ?_ (by with_reducible assumption)))
    first | (simp; done) | (simp <;> omega)

set_option maxRecDepth 100000 in
set_option maxHeartbeats 1600000 in
theorem stands1_np (pa : Option Addr) (na ca : Nat) (l : List Po.Pt) (v : Value) (t : Sh) (bg bf : Nat) (dg df : Int) (w : World) (hp : Po.Pts w (.slice pa na ca) l) (hv : Po.vaL l = true) (ht : ShV w v t) (kg : w.cell? ⟨bg, 6, none⟩ = some (.int .i64 dg)) (kf : w.cell? ⟨bf, 6, none⟩ = some (.int .i64 df)) : Calls Tryz.prog 49 #[.iface 82 (.slice pa na ca), v, .pointer (some ⟨bg, 0, none⟩), .pointer (some ⟨bf, 0, none⟩)] w (Ret w (.bool (hoS t (.pol l) && decide (dg ≤ df)))) := by
  have gg : bg < w.heap.size := World.block_lt_of_cell? _ _ kg
  have gf : bf < w.heap.size := World.block_lt_of_cell? _ _ kf
  have T := fun W => ta_pl pa na ca W
  have HS := Lib.hid (show ShV w (.iface 82 (.slice pa na ca)) (.pol l) from ⟨_, _, _, rfl, hp, hv⟩)
  have HT := Lib.hid ht
  clear ht hp hv
  have C := fun W h1 h2 => holds_c v (.iface 82 (.slice pa na ca)) t (.pol l) W h1 h2
  generalize hoS t (.pol l) = r at *
  cases r
  all_goals
    go_enter Tryz.func49, Tryz.ntmps49
    go_wp2_with (first | (go_at_call 47; refine Calls.mono (C _ (HT.out.below (by repeat (first | with_reducible exact Below.refl _ _ | with_reducible assumption | with_reducible refine Below.setCell ?_ (by first | omega | (simp <;> omega)) _ | with_reducible refine balloc ?_ _ | with_reducible refine Below.drew ?_ | with_reducible refine bstep ?_ (by with_reducible assumption)))) (HS.out.below (by repeat (first | with_reducible exact Below.refl _ _ | with_reducible assumption | with_reducible refine Below.setCell ?_ (by first | omega | (simp <;> omega)) _ | with_reducible refine balloc ?_ _ | with_reducible refine Below.drew ?_ | with_reducible refine bstep ?_ (by with_reducible assumption))))) ?_; rintro e w1 ⟨rfl, hb1⟩; obtain ⟨hc1, hf1⟩ := bcell hb1; have hsz := hb1.size; (try simp at hsz); have g0 := fun o => hc1 bg o (by first | omega | (simp <;> omega)); have g1 := fun o => hc1 bf o (by first | omega | (simp <;> omega)); clear hc1 hf1))
    (try clear T C)
    go_ret
    refine ret_bool ?_ (by repeat (first | with_reducible exact Below.refl _ _ | with_reducible assumption | with_reducible refine Below.setCell ?_ (by first | omega | (simp <;> omega)) _ | with_reducible refine balloc ?_ _ | with_reducible refine Below.drew ?_ | with_reducible refine bstep ?_ (by with_reducible assumption)))
    first | (simp; done) | (simp <;> omega)

theorem stands1_c (u v : Value) (s t : Sh) (bg bf : Nat) (dg df : Int) (w : World) (hs : ShV w u s) (ht : ShV w v t) (kg : w.cell? ⟨bg, 6, none⟩ = some (.int .i64 dg)) (kf : w.cell? ⟨bf, 6, none⟩ = some (.int .i64 df)) :
    Calls Tryz.prog 49 #[u, v, .pointer (some ⟨bg, 0, none⟩), .pointer (some ⟨bf, 0, none⟩)] w (Ret w (.bool (stS s t df dg))) := by
  cases s with
  | dis d1 d2 d3 =>
    obtain ⟨rfl, h1, h2⟩ := hs
    have E : stS (.dis d1 d2 d3) t df dg = (hoS t (.dis d1 d2 d3) && decide (dg ≤ df)) := rfl
    rw [E]
    exact stands1_nd _ _ _ _ _ bg bf dg df w h1 h2 ht kg kf
  | pol l =>
    obtain ⟨p, n, c, rfl, h1, h2⟩ := hs
    have E : stS (.pol l) t df dg = (hoS t (.pol l) && decide (dg ≤ df)) := rfl
    rw [E]
    exact stands1_np _ _ _ _ _ _ bg bf dg df w h1 h2 ht kg kf
  | lig x y q =>
    obtain ⟨p, n, c, rfl, h1, h2, h3⟩ := hs
    cases t with
    | dis e1 e2 e3 => obtain ⟨rfl, _⟩ := ht; exact stands1_ld _ _ _ _ _ _ _ _ bg bf dg df w kg kf
    | pol m => obtain ⟨p', n', c', rfl, _⟩ := ht; exact stands1_lp _ _ _ _ _ _ _ _ bg bf dg df w kg kf
    | lig x' y' q' => obtain ⟨p', n', c', rfl, g1, g2, g3⟩ := ht; exact stands1_ll _ _ _ _ _ _ _ _ _ _ _ _ bg bf dg df w h1 g1 h2 g2 kg kf

end Go.Proofs.YtfgajejhjbfhjaaGreat.Fe
end

section
namespace Go.Proofs.YtfgajejhjbfhjaaGreat.Fe
open Go.RowKit
set_option linter.unusedSimpArgs false
set_option linter.unusedVariables false

set_option maxRecDepth 100000 in
set_option maxHeartbeats 3200000 in
theorem ask_h_ok (v u : Value) (f g : Fe)  (w : World) (hv : FeV w v f) (hu : FeV w u g) (hf : vaF f = true) (hg : vaF g = true)  : Calls Tryz.prog 46 #[v, u, .func (.func 47) #[] #[]] w (Ret w (.tuple #[(.bool (hoS (shF f) (shF g))), (.int .i64 0)])) := by
  obtain ⟨⟨pa1, ps1, ca1, cs1, rfl, ha1, hs1⟩, hx1, hy1⟩ := hv
  have HF := Lib.hid (show FeV w (.agg #[(.int .i64 (f.id)), (.int .i64 (f.ki)), (.int .i64 (f.x)), (.int .i64 (f.y)), (.int .i64 (f.ra)), .slice pa1 f.ar.length ca1, (.int .i64 (f.de)), (.int .i64 (f.sy)), .slice ps1 f.se.length cs1]) f from ⟨⟨_, _, _, _, rfl, ha1, hs1⟩, hx1, hy1⟩)
  clear ha1 hs1 hx1 hy1
  obtain ⟨⟨pa2, ps2, ca2, cs2, rfl, ha2, hs2⟩, hx2, hy2⟩ := hu
  have HG := Lib.hid (show FeV w (.agg #[(.int .i64 (g.id)), (.int .i64 (g.ki)), (.int .i64 (g.x)), (.int .i64 (g.y)), (.int .i64 (g.ra)), .slice pa2 g.ar.length ca2, (.int .i64 (g.de)), (.int .i64 (g.sy)), .slice ps2 g.se.length cs2]) g from ⟨⟨_, _, _, _, rfl, ha2, hs2⟩, hx2, hy2⟩)
  clear ha2 hs2 hx2 hy2
  go_enter Tryz.func46, Tryz.ntmps46
  go_wp2_with fail
  refine Calls.mono (so_ok _ f _ hf (HF.out.below (by repeat (first | with_reducible exact Below.refl _ _ | with_reducible assumption | with_reducible refine Below.setCell ?_ (by first | omega | (simp <;> omega)) _ | with_reducible refine balloc ?_ _ | with_reducible refine Below.drew ?_ | with_reducible refine bstep ?_ (by with_reducible assumption))))) ?_
  rintro e w1 ⟨u1, rfl, hu1, hb1⟩
  obtain ⟨hc1, hf1⟩ := bcell hb1
  have hsz := hb1.size
  (try simp at hsz)
  have gs0 : w.heap.size + 1 < w1.heap.size := (by first | omega | (simp <;> omega))
  have g0 := fun o => hc1 (w.heap.size + 1) o (by first | omega | (simp <;> omega))
  clear hc1 hf1
  have hw1 : Below w.heap.size w w1 := (by repeat (first | with_reducible exact Below.refl _ _ | with_reducible assumption | with_reducible refine Below.setCell ?_ (by first | omega | (simp <;> omega)) _ | with_reducible refine balloc ?_ _ | with_reducible refine Below.drew ?_ | with_reducible refine bstep ?_ (by with_reducible assumption)))
  have U1 := Lib.hid hu1
  clear hu1
  go_wp2_with fail
  refine Calls.mono (so_ok _ g _ hg (HG.out.below hw1)) ?_
  rintro e w2 ⟨u2, rfl, hu2, hb2⟩
  have hw2 : Below w.heap.size w w2 := (by repeat (first | with_reducible exact Below.refl _ _ | with_reducible assumption | with_reducible refine Below.setCell ?_ (by first | omega | (simp <;> omega)) _ | with_reducible refine balloc ?_ _ | with_reducible refine Below.drew ?_ | with_reducible refine bstep ?_ (by with_reducible assumption)))
  have U2 := Lib.hid hu2
  clear hu2 g0
  go_wp2_with fail
  refine Calls.mono (holds_c u1 u2 (shF f) (shF g) _ (U1.out.below (by repeat (first | with_reducible exact Below.refl _ _ | with_reducible assumption | with_reducible refine Below.setCell ?_ (by first | omega | (simp <;> omega)) _ | with_reducible refine balloc ?_ _ | with_reducible refine Below.drew ?_ | with_reducible refine bstep ?_ (by with_reducible assumption)))) (U2.out.below (by repeat (first | with_reducible exact Below.refl _ _ | with_reducible assumption | with_reducible refine Below.setCell ?_ (by first | omega | (simp <;> omega)) _ | with_reducible refine balloc ?_ _ | with_reducible refine Below.drew ?_ | with_reducible refine bstep ?_ (by with_reducible assumption))))) ?_
  rintro e w3 ⟨rfl, hb3⟩
  go_wp2
  go_ret2
  exact ⟨rfl, (by repeat (first | with_reducible exact Below.refl _ _ | with_reducible assumption | with_reducible refine Below.setCell ?_ (by first | omega | (simp <;> omega)) _ | with_reducible refine balloc ?_ _ | with_reducible refine Below.drew ?_ | with_reducible refine bstep ?_ (by with_reducible assumption)))⟩

set_option maxRecDepth 100000 in
set_option maxHeartbeats 3200000 in
theorem ask_h_no (v u : Value) (f g : Fe) (x : Value) (w : World) (hv : FeV w v f) (hu : FeV w u g) (hn : (vaF f && vaF g) = false) : Calls Tryz.prog 46 #[v, u, x] w (Ret w (.tuple #[(.bool false), (.int .i64 1)])) := by
  obtain ⟨⟨pa1, ps1, ca1, cs1, rfl, ha1, hs1⟩, hx1, hy1⟩ := hv
  have HF := Lib.hid (show FeV w (.agg #[(.int .i64 (f.id)), (.int .i64 (f.ki)), (.int .i64 (f.x)), (.int .i64 (f.y)), (.int .i64 (f.ra)), .slice pa1 f.ar.length ca1, (.int .i64 (f.de)), (.int .i64 (f.sy)), .slice ps1 f.se.length cs1]) f from ⟨⟨_, _, _, _, rfl, ha1, hs1⟩, hx1, hy1⟩)
  clear ha1 hs1 hx1 hy1
  obtain ⟨⟨pa2, ps2, ca2, cs2, rfl, ha2, hs2⟩, hx2, hy2⟩ := hu
  have HG := Lib.hid (show FeV w (.agg #[(.int .i64 (g.id)), (.int .i64 (g.ki)), (.int .i64 (g.x)), (.int .i64 (g.y)), (.int .i64 (g.ra)), .slice pa2 g.ar.length ca2, (.int .i64 (g.de)), (.int .i64 (g.sy)), .slice ps2 g.se.length cs2]) g from ⟨⟨_, _, _, _, rfl, ha2, hs2⟩, hx2, hy2⟩)
  clear ha2 hs2 hx2 hy2
  cases hf : vaF f
  · have HX := Lib.hid hn
    clear hn
    go_enter Tryz.func46, Tryz.ntmps46
    go_wp2_with fail
    refine Calls.mono (so_no _ f _ hf (HF.out.below (by repeat (first | with_reducible exact Below.refl _ _ | with_reducible assumption | with_reducible refine Below.setCell ?_ (by first | omega | (simp <;> omega)) _ | with_reducible refine balloc ?_ _ | with_reducible refine Below.drew ?_ | with_reducible refine bstep ?_ (by with_reducible assumption))))) ?_
    rintro e w1 ⟨u1, rfl, hb1⟩
    obtain ⟨hc1, hf1⟩ := bcell hb1
    have hsz := hb1.size
    (try simp at hsz)
    have gs0 : w.heap.size + 1 < w1.heap.size := (by first | omega | (simp <;> omega))
    have g0 := fun o => hc1 (w.heap.size + 1) o (by first | omega | (simp <;> omega))
    clear hc1 hf1
    have hw1 : Below w.heap.size w w1 := (by repeat (first | with_reducible exact Below.refl _ _ | with_reducible assumption | with_reducible refine Below.setCell ?_ (by first | omega | (simp <;> omega)) _ | with_reducible refine balloc ?_ _ | with_reducible refine Below.drew ?_ | with_reducible refine bstep ?_ (by with_reducible assumption)))
    (try clear hu1)
    go_wp2_with fail
    refine Calls.mono (shapeOf_c _ g _ (HG.out.below hw1)) ?_
    rintro e w2 ⟨u2, rfl, hu2, hb2⟩
    clear hu2
    generalize vaF g = r at *
    go_wp2
    go_ret2
    exact ⟨rfl, (by repeat (first | with_reducible exact Below.refl _ _ | with_reducible assumption | with_reducible refine Below.setCell ?_ (by first | omega | (simp <;> omega)) _ | with_reducible refine balloc ?_ _ | with_reducible refine Below.drew ?_ | with_reducible refine bstep ?_ (by with_reducible assumption)))⟩
  · have HX := Lib.hid hn
    clear hn
    go_enter Tryz.func46, Tryz.ntmps46
    go_wp2_with fail
    refine Calls.mono (so_ok _ f _ hf (HF.out.below (by repeat (first | with_reducible exact Below.refl _ _ | with_reducible assumption | with_reducible refine Below.setCell ?_ (by first | omega | (simp <;> omega)) _ | with_reducible refine balloc ?_ _ | with_reducible refine Below.drew ?_ | with_reducible refine bstep ?_ (by with_reducible assumption))))) ?_
    rintro e w1 ⟨u1, rfl, hu1, hb1⟩
    obtain ⟨hc1, hf1⟩ := bcell hb1
    have hsz := hb1.size
    (try simp at hsz)
    have gs0 : w.heap.size + 1 < w1.heap.size := (by first | omega | (simp <;> omega))
    have g0 := fun o => hc1 (w.heap.size + 1) o (by first | omega | (simp <;> omega))
    clear hc1 hf1
    have hw1 : Below w.heap.size w w1 := (by repeat (first | with_reducible exact Below.refl _ _ | with_reducible assumption | with_reducible refine Below.setCell ?_ (by first | omega | (simp <;> omega)) _ | with_reducible refine balloc ?_ _ | with_reducible refine Below.drew ?_ | with_reducible refine bstep ?_ (by with_reducible assumption)))
    (try clear hu1)
    have hg : vaF g = false := by have := HX.out; rw [hf] at this; exact this
    go_wp2_with fail
    refine Calls.mono (so_no _ g _ hg (HG.out.below hw1)) ?_
    rintro e w2 ⟨u2, rfl, hb2⟩
    go_wp2
    go_ret2
    exact ⟨rfl, (by repeat (first | with_reducible exact Below.refl _ _ | with_reducible assumption | with_reducible refine Below.setCell ?_ (by first | omega | (simp <;> omega)) _ | with_reducible refine balloc ?_ _ | with_reducible refine Below.drew ?_ | with_reducible refine bstep ?_ (by with_reducible assumption)))⟩

set_option maxRecDepth 100000 in
set_option maxHeartbeats 3200000 in
theorem ask_t_ok (v u : Value) (f g : Fe)  (w : World) (hv : FeV w v f) (hu : FeV w u g) (hf : vaF f = true) (hg : vaF g = true)  : Calls Tryz.prog 46 #[v, u, .func (.func 52) #[] #[]] w (Ret w (.tuple #[(.bool (toS (shF f) (shF g))), (.int .i64 0)])) := by
  obtain ⟨⟨pa1, ps1, ca1, cs1, rfl, ha1, hs1⟩, hx1, hy1⟩ := hv
  have HF := Lib.hid (show FeV w (.agg #[(.int .i64 (f.id)), (.int .i64 (f.ki)), (.int .i64 (f.x)), (.int .i64 (f.y)), (.int .i64 (f.ra)), .slice pa1 f.ar.length ca1, (.int .i64 (f.de)), (.int .i64 (f.sy)), .slice ps1 f.se.length cs1]) f from ⟨⟨_, _, _, _, rfl, ha1, hs1⟩, hx1, hy1⟩)
  clear ha1 hs1 hx1 hy1
  obtain ⟨⟨pa2, ps2, ca2, cs2, rfl, ha2, hs2⟩, hx2, hy2⟩ := hu
  have HG := Lib.hid (show FeV w (.agg #[(.int .i64 (g.id)), (.int .i64 (g.ki)), (.int .i64 (g.x)), (.int .i64 (g.y)), (.int .i64 (g.ra)), .slice pa2 g.ar.length ca2, (.int .i64 (g.de)), (.int .i64 (g.sy)), .slice ps2 g.se.length cs2]) g from ⟨⟨_, _, _, _, rfl, ha2, hs2⟩, hx2, hy2⟩)
  clear ha2 hs2 hx2 hy2
  go_enter Tryz.func46, Tryz.ntmps46
  go_wp2_with fail
  refine Calls.mono (so_ok _ f _ hf (HF.out.below (by repeat (first | with_reducible exact Below.refl _ _ | with_reducible assumption | with_reducible refine Below.setCell ?_ (by first | omega | (simp <;> omega)) _ | with_reducible refine balloc ?_ _ | with_reducible refine Below.drew ?_ | with_reducible refine bstep ?_ (by with_reducible assumption))))) ?_
  rintro e w1 ⟨u1, rfl, hu1, hb1⟩
  obtain ⟨hc1, hf1⟩ := bcell hb1
  have hsz := hb1.size
  (try simp at hsz)
  have gs0 : w.heap.size + 1 < w1.heap.size := (by first | omega | (simp <;> omega))
  have g0 := fun o => hc1 (w.heap.size + 1) o (by first | omega | (simp <;> omega))
  clear hc1 hf1
  have hw1 : Below w.heap.size w w1 := (by repeat (first | with_reducible exact Below.refl _ _ | with_reducible assumption | with_reducible refine Below.setCell ?_ (by first | omega | (simp <;> omega)) _ | with_reducible refine balloc ?_ _ | with_reducible refine Below.drew ?_ | with_reducible refine bstep ?_ (by with_reducible assumption)))
  have U1 := Lib.hid hu1
  clear hu1
  go_wp2_with fail
  refine Calls.mono (so_ok _ g _ hg (HG.out.below hw1)) ?_
  rintro e w2 ⟨u2, rfl, hu2, hb2⟩
  have hw2 : Below w.heap.size w w2 := (by repeat (first | with_reducible exact Below.refl _ _ | with_reducible assumption | with_reducible refine Below.setCell ?_ (by first | omega | (simp <;> omega)) _ | with_reducible refine balloc ?_ _ | with_reducible refine Below.drew ?_ | with_reducible refine bstep ?_ (by with_reducible assumption)))
  have U2 := Lib.hid hu2
  clear hu2 g0
  go_wp2_with fail
  refine Calls.mono (touches_c u1 u2 (shF f) (shF g) _ (U1.out.below (by repeat (first | with_reducible exact Below.refl _ _ | with_reducible assumption | with_reducible refine Below.setCell ?_ (by first | omega | (simp <;> omega)) _ | with_reducible refine balloc ?_ _ | with_reducible refine Below.drew ?_ | with_reducible refine bstep ?_ (by with_reducible assumption)))) (U2.out.below (by repeat (first | with_reducible exact Below.refl _ _ | with_reducible assumption | with_reducible refine Below.setCell ?_ (by first | omega | (simp <;> omega)) _ | with_reducible refine balloc ?_ _ | with_reducible refine Below.drew ?_ | with_reducible refine bstep ?_ (by with_reducible assumption))))) ?_
  rintro e w3 ⟨rfl, hb3⟩
  go_wp2
  go_ret2
  exact ⟨rfl, (by repeat (first | with_reducible exact Below.refl _ _ | with_reducible assumption | with_reducible refine Below.setCell ?_ (by first | omega | (simp <;> omega)) _ | with_reducible refine balloc ?_ _ | with_reducible refine Below.drew ?_ | with_reducible refine bstep ?_ (by with_reducible assumption)))⟩


end Go.Proofs.YtfgajejhjbfhjaaGreat.Fe
end

section
namespace Go.Proofs.YtfgajejhjbfhjaaGreat.Fe
open Go.RowKit
set_option linter.unusedSimpArgs false
set_option linter.unusedVariables false

set_option maxRecDepth 100000 in
set_option maxHeartbeats 3200000 in
theorem ask_s_ok (v u : Value) (f g : Fe) (bg bf : Nat) (dg df : Int) (w : World) (hv : FeV w v f) (hu : FeV w u g) (hf : vaF f = true) (hg : vaF g = true) (kg : w.cell? ⟨bg, 6, none⟩ = some (.int .i64 dg)) (kf : w.cell? ⟨bf, 6, none⟩ = some (.int .i64 df)) : Calls Tryz.prog 46 #[v, u, .func (.func 49) #[] #[.pointer (some ⟨bg, 0, none⟩), .pointer (some ⟨bf, 0, none⟩)]] w (Ret w (.tuple #[(.bool (stS (shF f) (shF g) df dg)), (.int .i64 0)])) := by
  obtain ⟨⟨pa1, ps1, ca1, cs1, rfl, ha1, hs1⟩, hx1, hy1⟩ := hv
  have HF := Lib.hid (show FeV w (.agg #[(.int .i64 (f.id)), (.int .i64 (f.ki)), (.int .i64 (f.x)), (.int .i64 (f.y)), (.int .i64 (f.ra)), .slice pa1 f.ar.length ca1, (.int .i64 (f.de)), (.int .i64 (f.sy)), .slice ps1 f.se.length cs1]) f from ⟨⟨_, _, _, _, rfl, ha1, hs1⟩, hx1, hy1⟩)
  clear ha1 hs1 hx1 hy1
  obtain ⟨⟨pa2, ps2, ca2, cs2, rfl, ha2, hs2⟩, hx2, hy2⟩ := hu
  have HG := Lib.hid (show FeV w (.agg #[(.int .i64 (g.id)), (.int .i64 (g.ki)), (.int .i64 (g.x)), (.int .i64 (g.y)), (.int .i64 (g.ra)), .slice pa2 g.ar.length ca2, (.int .i64 (g.de)), (.int .i64 (g.sy)), .slice ps2 g.se.length cs2]) g from ⟨⟨_, _, _, _, rfl, ha2, hs2⟩, hx2, hy2⟩)
  clear ha2 hs2 hx2 hy2
  have KG := Lib.hid kg
  have KF := Lib.hid kf
  clear kg kf
  go_enter Tryz.func46, Tryz.ntmps46
  go_wp2_with fail
  refine Calls.mono (so_ok _ f _ hf (HF.out.below (by repeat (first | with_reducible exact Below.refl _ _ | with_reducible assumption | with_reducible refine Below.setCell ?_ (by first | omega | (simp <;> omega)) _ | with_reducible refine balloc ?_ _ | with_reducible refine Below.drew ?_ | with_reducible refine bstep ?_ (by with_reducible assumption))))) ?_
  rintro e w1 ⟨u1, rfl, hu1, hb1⟩
  obtain ⟨hc1, hf1⟩ := bcell hb1
  have hsz := hb1.size
  (try simp at hsz)
  have gs0 : w.heap.size + 1 < w1.heap.size := (by first | omega | (simp <;> omega))
  have g0 := fun o => hc1 (w.heap.size + 1) o (by first | omega | (simp <;> omega))
  clear hc1 hf1
  have hw1 : Below w.heap.size w w1 := (by repeat (first | with_reducible exact Below.refl _ _ | with_reducible assumption | with_reducible refine Below.setCell ?_ (by first | omega | (simp <;> omega)) _ | with_reducible refine balloc ?_ _ | with_reducible refine Below.drew ?_ | with_reducible refine bstep ?_ (by with_reducible assumption)))
  have U1 := Lib.hid hu1
  clear hu1
  go_wp2_with fail
  refine Calls.mono (so_ok _ g _ hg (HG.out.below hw1)) ?_
  rintro e w2 ⟨u2, rfl, hu2, hb2⟩
  have hw2 : Below w.heap.size w w2 := (by repeat (first | with_reducible exact Below.refl _ _ | with_reducible assumption | with_reducible refine Below.setCell ?_ (by first | omega | (simp <;> omega)) _ | with_reducible refine balloc ?_ _ | with_reducible refine Below.drew ?_ | with_reducible refine bstep ?_ (by with_reducible assumption)))
  have U2 := Lib.hid hu2
  clear hu2 g0
  go_wp2_with fail
  refine Calls.mono (stands1_c u1 u2 (shF f) (shF g) bg bf dg df _ (U1.out.below (by repeat (first | with_reducible exact Below.refl _ _ | with_reducible assumption | with_reducible refine Below.setCell ?_ (by first | omega | (simp <;> omega)) _ | with_reducible refine balloc ?_ _ | with_reducible refine Below.drew ?_ | with_reducible refine bstep ?_ (by with_reducible assumption)))) (U2.out.below (by repeat (first | with_reducible exact Below.refl _ _ | with_reducible assumption | with_reducible refine Below.setCell ?_ (by first | omega | (simp <;> omega)) _ | with_reducible refine balloc ?_ _ | with_reducible refine Below.drew ?_ | with_reducible refine bstep ?_ (by with_reducible assumption)))) (cell_later hw2 KG.out) (cell_later hw2 KF.out)) ?_
  rintro e w3 ⟨rfl, hb3⟩
  go_wp2
  go_ret2
  exact ⟨rfl, (by repeat (first | with_reducible exact Below.refl _ _ | with_reducible assumption | with_reducible refine Below.setCell ?_ (by first | omega | (simp <;> omega)) _ | with_reducible refine balloc ?_ _ | with_reducible refine Below.drew ?_ | with_reducible refine bstep ?_ (by with_reducible assumption)))⟩

set_option maxRecDepth 100000 in
set_option maxHeartbeats 3200000 in
theorem Holds_ok (v u : Value) (f g : Fe) (w : World) (hv : FeV w v f) (hu : FeV w u g) (hf : vaF f = true) (hg : vaF g = true) : Calls Tryz.prog 20 #[v, u] w (Ret w (.tuple #[(.bool (hoS (shF f) (shF g))), (.int .i64 0)])) := by
  obtain ⟨⟨pa1, ps1, ca1, cs1, rfl, ha1, hs1⟩, hx1, hy1⟩ := hv
  have HF := Lib.hid (show FeV w (.agg #[(.int .i64 (f.id)), (.int .i64 (f.ki)), (.int .i64 (f.x)), (.int .i64 (f.y)), (.int .i64 (f.ra)), .slice pa1 f.ar.length ca1, (.int .i64 (f.de)), (.int .i64 (f.sy)), .slice ps1 f.se.length cs1]) f from ⟨⟨_, _, _, _, rfl, ha1, hs1⟩, hx1, hy1⟩)
  clear ha1 hs1 hx1 hy1
  obtain ⟨⟨pa2, ps2, ca2, cs2, rfl, ha2, hs2⟩, hx2, hy2⟩ := hu
  have HG := Lib.hid (show FeV w (.agg #[(.int .i64 (g.id)), (.int .i64 (g.ki)), (.int .i64 (g.x)), (.int .i64 (g.y)), (.int .i64 (g.ra)), .slice pa2 g.ar.length ca2, (.int .i64 (g.de)), (.int .i64 (g.sy)), .slice ps2 g.se.length cs2]) g from ⟨⟨_, _, _, _, rfl, ha2, hs2⟩, hx2, hy2⟩)
  clear ha2 hs2 hx2 hy2
  go_enter Tryz.func20, Tryz.ntmps20
  go_wp2_with fail
  refine Calls.mono (ask_h_ok _ _ f g _ (HF.out.below (by repeat (first | with_reducible exact Below.refl _ _ | with_reducible assumption | with_reducible refine Below.setCell ?_ (by first | omega | (simp <;> omega)) _ | with_reducible refine balloc ?_ _ | with_reducible refine Below.drew ?_ | with_reducible refine bstep ?_ (by with_reducible assumption)))) (HG.out.below (by repeat (first | with_reducible exact Below.refl _ _ | with_reducible assumption | with_reducible refine Below.setCell ?_ (by first | omega | (simp <;> omega)) _ | with_reducible refine balloc ?_ _ | with_reducible refine Below.drew ?_ | with_reducible refine bstep ?_ (by with_reducible assumption)))) hf hg) ?_
  rintro e w1 ⟨rfl, hb1⟩
  go_wp2
  go_ret2
  exact ⟨rfl, (by repeat (first | with_reducible exact Below.refl _ _ | with_reducible assumption | with_reducible refine Below.setCell ?_ (by first | omega | (simp <;> omega)) _ | with_reducible refine balloc ?_ _ | with_reducible refine Below.drew ?_ | with_reducible refine bstep ?_ (by with_reducible assumption)))⟩

set_option maxRecDepth 100000 in
set_option maxHeartbeats 3200000 in
theorem Touch_ok (v u : Value) (f g : Fe) (w : World) (hv : FeV w v f) (hu : FeV w u g) (hf : vaF f = true) (hg : vaF g = true) : Calls Tryz.prog 24 #[v, u] w (Ret w (.tuple #[(.bool (toS (shF f) (shF g))), (.int .i64 0)])) := by
  obtain ⟨⟨pa1, ps1, ca1, cs1, rfl, ha1, hs1⟩, hx1, hy1⟩ := hv
  have HF := Lib.hid (show FeV w (.agg #[(.int .i64 (f.id)), (.int .i64 (f.ki)), (.int .i64 (f.x)), (.int .i64 (f.y)), (.int .i64 (f.ra)), .slice pa1 f.ar.length ca1, (.int .i64 (f.de)), (.int .i64 (f.sy)), .slice ps1 f.se.length cs1]) f from ⟨⟨_, _, _, _, rfl, ha1, hs1⟩, hx1, hy1⟩)
  clear ha1 hs1 hx1 hy1
  obtain ⟨⟨pa2, ps2, ca2, cs2, rfl, ha2, hs2⟩, hx2, hy2⟩ := hu
  have HG := Lib.hid (show FeV w (.agg #[(.int .i64 (g.id)), (.int .i64 (g.ki)), (.int .i64 (g.x)), (.int .i64 (g.y)), (.int .i64 (g.ra)), .slice pa2 g.ar.length ca2, (.int .i64 (g.de)), (.int .i64 (g.sy)), .slice ps2 g.se.length cs2]) g from ⟨⟨_, _, _, _, rfl, ha2, hs2⟩, hx2, hy2⟩)
  clear ha2 hs2 hx2 hy2
  go_enter Tryz.func24, Tryz.ntmps24
  go_wp2_with fail
  refine Calls.mono (ask_t_ok _ _ f g _ (HF.out.below (by repeat (first | with_reducible exact Below.refl _ _ | with_reducible assumption | with_reducible refine Below.setCell ?_ (by first | omega | (simp <;> omega)) _ | with_reducible refine balloc ?_ _ | with_reducible refine Below.drew ?_ | with_reducible refine bstep ?_ (by with_reducible assumption)))) (HG.out.below (by repeat (first | with_reducible exact Below.refl _ _ | with_reducible assumption | with_reducible refine Below.setCell ?_ (by first | omega | (simp <;> omega)) _ | with_reducible refine balloc ?_ _ | with_reducible refine Below.drew ?_ | with_reducible refine bstep ?_ (by with_reducible assumption)))) hf hg) ?_
  rintro e w1 ⟨rfl, hb1⟩
  go_wp2
  go_ret2
  exact ⟨rfl, (by repeat (first | with_reducible exact Below.refl _ _ | with_reducible assumption | with_reducible refine Below.setCell ?_ (by first | omega | (simp <;> omega)) _ | with_reducible refine balloc ?_ _ | with_reducible refine Below.drew ?_ | with_reducible refine bstep ?_ (by with_reducible assumption)))⟩

set_option maxRecDepth 100000 in
set_option maxHeartbeats 3200000 in
theorem Holds_no (v u : Value) (f g : Fe) (w : World) (hv : FeV w v f) (hu : FeV w u g) (hn : (vaF f && vaF g) = false) : Calls Tryz.prog 20 #[v, u] w (Ret w (.tuple #[(.bool false), (.int .i64 1)])) := by
  obtain ⟨⟨pa1, ps1, ca1, cs1, rfl, ha1, hs1⟩, hx1, hy1⟩ := hv
  have HF := Lib.hid (show FeV w (.agg #[(.int .i64 (f.id)), (.int .i64 (f.ki)), (.int .i64 (f.x)), (.int .i64 (f.y)), (.int .i64 (f.ra)), .slice pa1 f.ar.length ca1, (.int .i64 (f.de)), (.int .i64 (f.sy)), .slice ps1 f.se.length cs1]) f from ⟨⟨_, _, _, _, rfl, ha1, hs1⟩, hx1, hy1⟩)
  clear ha1 hs1 hx1 hy1
  obtain ⟨⟨pa2, ps2, ca2, cs2, rfl, ha2, hs2⟩, hx2, hy2⟩ := hu
  have HG := Lib.hid (show FeV w (.agg #[(.int .i64 (g.id)), (.int .i64 (g.ki)), (.int .i64 (g.x)), (.int .i64 (g.y)), (.int .i64 (g.ra)), .slice pa2 g.ar.length ca2, (.int .i64 (g.de)), (.int .i64 (g.sy)), .slice ps2 g.se.length cs2]) g from ⟨⟨_, _, _, _, rfl, ha2, hs2⟩, hx2, hy2⟩)
  clear ha2 hs2 hx2 hy2
  have HN := Lib.hid hn
  clear hn
  go_enter Tryz.func20, Tryz.ntmps20
  go_wp2_with fail
  refine Calls.mono (ask_h_no _ _ f g _ _ (HF.out.below (by repeat (first | with_reducible exact Below.refl _ _ | with_reducible assumption | with_reducible refine Below.setCell ?_ (by first | omega | (simp <;> omega)) _ | with_reducible refine balloc ?_ _ | with_reducible refine Below.drew ?_ | with_reducible refine bstep ?_ (by with_reducible assumption)))) (HG.out.below (by repeat (first | with_reducible exact Below.refl _ _ | with_reducible assumption | with_reducible refine Below.setCell ?_ (by first | omega | (simp <;> omega)) _ | with_reducible refine balloc ?_ _ | with_reducible refine Below.drew ?_ | with_reducible refine bstep ?_ (by with_reducible assumption)))) HN.out) ?_
  rintro e w1 ⟨rfl, hb1⟩
  go_wp2
  go_ret2
  exact ⟨rfl, (by repeat (first | with_reducible exact Below.refl _ _ | with_reducible assumption | with_reducible refine Below.setCell ?_ (by first | omega | (simp <;> omega)) _ | with_reducible refine balloc ?_ _ | with_reducible refine Below.drew ?_ | with_reducible refine bstep ?_ (by with_reducible assumption)))⟩

set_option maxRecDepth 100000 in
set_option maxHeartbeats 3200000 in
theorem Touch_no (v u : Value) (f g : Fe) (w : World) (hv : FeV w v f) (hu : FeV w u g) (hn : (vaF f && vaF g) = false) : Calls Tryz.prog 24 #[v, u] w (Ret w (.tuple #[(.bool false), (.int .i64 1)])) := by
  obtain ⟨⟨pa1, ps1, ca1, cs1, rfl, ha1, hs1⟩, hx1, hy1⟩ := hv
  have HF := Lib.hid (show FeV w (.agg #[(.int .i64 (f.id)), (.int .i64 (f.ki)), (.int .i64 (f.x)), (.int .i64 (f.y)), (.int .i64 (f.ra)), .slice pa1 f.ar.length ca1, (.int .i64 (f.de)), (.int .i64 (f.sy)), .slice ps1 f.se.length cs1]) f from ⟨⟨_, _, _, _, rfl, ha1, hs1⟩, hx1, hy1⟩)
  clear ha1 hs1 hx1 hy1
  obtain ⟨⟨pa2, ps2, ca2, cs2, rfl, ha2, hs2⟩, hx2, hy2⟩ := hu
  have HG := Lib.hid (show FeV w (.agg #[(.int .i64 (g.id)), (.int .i64 (g.ki)), (.int .i64 (g.x)), (.int .i64 (g.y)), (.int .i64 (g.ra)), .slice pa2 g.ar.length ca2, (.int .i64 (g.de)), (.int .i64 (g.sy)), .slice ps2 g.se.length cs2]) g from ⟨⟨_, _, _, _, rfl, ha2, hs2⟩, hx2, hy2⟩)
  clear ha2 hs2 hx2 hy2
  have HN := Lib.hid hn
  clear hn
  go_enter Tryz.func24, Tryz.ntmps24
  go_wp2_with fail
  refine Calls.mono (ask_h_no _ _ f g _ _ (HF.out.below (by repeat (first | with_reducible exact Below.refl _ _ | with_reducible assumption | with_reducible refine Below.setCell ?_ (by first | omega | (simp <;> omega)) _ | with_reducible refine balloc ?_ _ | with_reducible refine Below.drew ?_ | with_reducible refine bstep ?_ (by with_reducible assumption)))) (HG.out.below (by repeat (first | with_reducible exact Below.refl _ _ | with_reducible assumption | with_reducible refine Below.setCell ?_ (by first | omega | (simp <;> omega)) _ | with_reducible refine balloc ?_ _ | with_reducible refine Below.drew ?_ | with_reducible refine bstep ?_ (by with_reducible assumption)))) HN.out) ?_
  rintro e w1 ⟨rfl, hb1⟩
  go_wp2
  go_ret2
  exact ⟨rfl, (by repeat (first | with_reducible exact Below.refl _ _ | with_reducible assumption | with_reducible refine Below.setCell ?_ (by first | omega | (simp <;> omega)) _ | with_reducible refine balloc ?_ _ | with_reducible refine Below.drew ?_ | with_reducible refine bstep ?_ (by with_reducible assumption)))⟩

set_option maxRecDepth 100000 in
set_option maxHeartbeats 3200000 in
theorem Stands_no (v u : Value) (f g : Fe) (w : World) (hv : FeV w v f) (hu : FeV w u g) (hn : (vaF f && vaF g) = false) : Calls Tryz.prog 22 #[v, u] w (Ret w (.tuple #[(.bool false), (.int .i64 1)])) := by
  obtain ⟨⟨pa1, ps1, ca1, cs1, rfl, ha1, hs1⟩, hx1, hy1⟩ := hv
  have HF := Lib.hid (show FeV w (.agg #[(.int .i64 (f.id)), (.int .i64 (f.ki)), (.int .i64 (f.x)), (.int .i64 (f.y)), (.int .i64 (f.ra)), .slice pa1 f.ar.length ca1, (.int .i64 (f.de)), (.int .i64 (f.sy)), .slice ps1 f.se.length cs1]) f from ⟨⟨_, _, _, _, rfl, ha1, hs1⟩, hx1, hy1⟩)
  clear ha1 hs1 hx1 hy1
  obtain ⟨⟨pa2, ps2, ca2, cs2, rfl, ha2, hs2⟩, hx2, hy2⟩ := hu
  have HG := Lib.hid (show FeV w (.agg #[(.int .i64 (g.id)), (.int .i64 (g.ki)), (.int .i64 (g.x)), (.int .i64 (g.y)), (.int .i64 (g.ra)), .slice pa2 g.ar.length ca2, (.int .i64 (g.de)), (.int .i64 (g.sy)), .slice ps2 g.se.length cs2]) g from ⟨⟨_, _, _, _, rfl, ha2, hs2⟩, hx2, hy2⟩)
  clear ha2 hs2 hx2 hy2
  have HN := Lib.hid hn
  clear hn
  go_enter Tryz.func22, Tryz.ntmps22
  go_wp2_with fail
  refine Calls.mono (ask_h_no _ _ f g _ _ (HF.out.below (by repeat (first | with_reducible exact Below.refl _ _ | with_reducible assumption | with_reducible refine Below.setCell ?_ (by first | omega | (simp <;> omega)) _ | with_reducible refine balloc ?_ _ | with_reducible refine Below.drew ?_ | with_reducible refine bstep ?_ (by with_reducible assumption)))) (HG.out.below (by repeat (first | with_reducible exact Below.refl _ _ | with_reducible assumption | with_reducible refine Below.setCell ?_ (by first | omega | (simp <;> omega)) _ | with_reducible refine balloc ?_ _ | with_reducible refine Below.drew ?_ | with_reducible refine bstep ?_ (by with_reducible assumption)))) HN.out) ?_
  rintro e w1 ⟨rfl, hb1⟩
  go_wp2
  go_ret2
  exact ⟨rfl, (by repeat (first | with_reducible exact Below.refl _ _ | with_reducible assumption | with_reducible refine Below.setCell ?_ (by first | omega | (simp <;> omega)) _ | with_reducible refine balloc ?_ _ | with_reducible refine Below.drew ?_ | with_reducible refine bstep ?_ (by with_reducible assumption)))⟩

set_option maxRecDepth 100000 in
set_option maxHeartbeats 3200000 in
theorem Stands_ok (v u : Value) (f g : Fe) (w : World) (hv : FeV w v f) (hu : FeV w u g) (hf : vaF f = true) (hg : vaF g = true) : Calls Tryz.prog 22 #[v, u] w (Ret w (.tuple #[(.bool (stS (shF f) (shF g) f.de g.de)), (.int .i64 0)])) := by
  obtain ⟨⟨pa1, ps1, ca1, cs1, rfl, ha1, hs1⟩, hx1, hy1⟩ := hv
  have HF := Lib.hid (show FeV w (.agg #[(.int .i64 (f.id)), (.int .i64 (f.ki)), (.int .i64 (f.x)), (.int .i64 (f.y)), (.int .i64 (f.ra)), .slice pa1 f.ar.length ca1, (.int .i64 (f.de)), (.int .i64 (f.sy)), .slice ps1 f.se.length cs1]) f from ⟨⟨_, _, _, _, rfl, ha1, hs1⟩, hx1, hy1⟩)
  clear ha1 hs1 hx1 hy1
  obtain ⟨⟨pa2, ps2, ca2, cs2, rfl, ha2, hs2⟩, hx2, hy2⟩ := hu
  have HG := Lib.hid (show FeV w (.agg #[(.int .i64 (g.id)), (.int .i64 (g.ki)), (.int .i64 (g.x)), (.int .i64 (g.y)), (.int .i64 (g.ra)), .slice pa2 g.ar.length ca2, (.int .i64 (g.de)), (.int .i64 (g.sy)), .slice ps2 g.se.length cs2]) g from ⟨⟨_, _, _, _, rfl, ha2, hs2⟩, hx2, hy2⟩)
  clear ha2 hs2 hx2 hy2
  go_enter Tryz.func22, Tryz.ntmps22
  go_wp2_with fail
  refine Calls.mono (ask_s_ok _ _ f g _ _ g.de f.de _ (HF.out.below (by repeat (first | with_reducible exact Below.refl _ _ | with_reducible assumption | with_reducible refine Below.setCell ?_ (by first | omega | (simp <;> omega)) _ | with_reducible refine balloc ?_ _ | with_reducible refine Below.drew ?_ | with_reducible refine bstep ?_ (by with_reducible assumption)))) (HG.out.below (by repeat (first | with_reducible exact Below.refl _ _ | with_reducible assumption | with_reducible refine Below.setCell ?_ (by first | omega | (simp <;> omega)) _ | with_reducible refine balloc ?_ _ | with_reducible refine Below.drew ?_ | with_reducible refine bstep ?_ (by with_reducible assumption)))) hf hg (by go_simp) (by go_simp)) ?_
  rintro e w1 ⟨rfl, hb1⟩
  go_wp2
  go_ret2
  exact ⟨rfl, (by repeat (first | with_reducible exact Below.refl _ _ | with_reducible assumption | with_reducible refine Below.setCell ?_ (by first | omega | (simp <;> omega)) _ | with_reducible refine balloc ?_ _ | with_reducible refine Below.drew ?_ | with_reducible refine bstep ?_ (by with_reducible assumption)))⟩


end Go.Proofs.YtfgajejhjbfhjaaGreat.Fe
end

section
namespace Go.Proofs.YtfgajejhjbfhjaaGreat.Fe
open Go.RowKit
set_option linter.unusedSimpArgs false
set_option linter.unusedVariables false

set_option maxRecDepth 100000 in
set_option maxHeartbeats 3200000 in
theorem Valid_c (v : Value) (f : Fe) (w : World) (hv : FeV w v f) : Calls Tryz.prog 12 #[v] w (Ret w (.bool (vaF f))) := by
  obtain ⟨⟨pa1, ps1, ca1, cs1, rfl, ha1, hs1⟩, hx1, hy1⟩ := hv
  have HF := Lib.hid (show FeV w (.agg #[(.int .i64 (f.id)), (.int .i64 (f.ki)), (.int .i64 (f.x)), (.int .i64 (f.y)), (.int .i64 (f.ra)), .slice pa1 f.ar.length ca1, (.int .i64 (f.de)), (.int .i64 (f.sy)), .slice ps1 f.se.length cs1]) f from ⟨⟨_, _, _, _, rfl, ha1, hs1⟩, hx1, hy1⟩)
  clear ha1 hs1 hx1 hy1
  go_enter Tryz.func12, Tryz.ntmps12
  go_wp2_with fail
  refine Calls.mono (shapeOf_c _ f _ (HF.out.below (by repeat (first | with_reducible exact Below.refl _ _ | with_reducible assumption | with_reducible refine Below.setCell ?_ (by first | omega | (simp <;> omega)) _ | with_reducible refine balloc ?_ _ | with_reducible refine Below.drew ?_ | with_reducible refine bstep ?_ (by with_reducible assumption))))) ?_
  rintro e w1 ⟨u1, rfl, hu1, hb1⟩
  clear hu1
  generalize vaF f = r at *
  go_wp2
  go_ret
  exact ⟨rfl, (by repeat (first | with_reducible exact Below.refl _ _ | with_reducible assumption | with_reducible refine Below.setCell ?_ (by first | omega | (simp <;> omega)) _ | with_reducible refine balloc ?_ _ | with_reducible refine Below.drew ?_ | with_reducible refine bstep ?_ (by with_reducible assumption)))⟩

set_option maxRecDepth 100000 in
set_option maxHeartbeats 3200000 in
theorem Covers_dis (v : Value) (f : Fe) (p1 p2 : Int) (x y r : Int) (w : World) (hv : FeV w v f) (hf : vaF f = true) (hp : ok p1 p2) (hs : shF f = (.dis x y r)) : Calls Tryz.prog 18 #[v, (.agg #[.int .i64 p1, .int .i64 p2])] w (Ret w (.tuple #[(.bool (coS (.dis x y r) p1 p2)), (.int .i64 0)])) := by
  obtain ⟨⟨pa1, ps1, ca1, cs1, rfl, ha1, hs1⟩, hx1, hy1⟩ := hv
  have HF := Lib.hid (show FeV w (.agg #[(.int .i64 (f.id)), (.int .i64 (f.ki)), (.int .i64 (f.x)), (.int .i64 (f.y)), (.int .i64 (f.ra)), .slice pa1 f.ar.length ca1, (.int .i64 (f.de)), (.int .i64 (f.sy)), .slice ps1 f.se.length cs1]) f from ⟨⟨_, _, _, _, rfl, ha1, hs1⟩, hx1, hy1⟩)
  clear ha1 hs1 hx1 hy1
  have vp : okB p1 p2 = true := okB_iff.2 hp
  have E := Lib.hid hs
  clear hs
  go_enter Tryz.func18, Tryz.ntmps18
  go_wp2_with fail
  refine Calls.mono (so_ok _ f _ hf (HF.out.below (by repeat (first | with_reducible exact Below.refl _ _ | with_reducible assumption | with_reducible refine Below.setCell ?_ (by first | omega | (simp <;> omega)) _ | with_reducible refine balloc ?_ _ | with_reducible refine Below.drew ?_ | with_reducible refine bstep ?_ (by with_reducible assumption))))) ?_
  rintro e w1 ⟨u1, rfl, hu1, hb1⟩
  rw [E.out] at hu1
  obtain ⟨hc1, hf1⟩ := bcell hb1
  have hsz := hb1.size
  (try simp at hsz)
  have gs0 : w.heap.size + 1 < w1.heap.size := (by first | omega | (simp <;> omega))
  have g0 := fun o => hc1 (w.heap.size + 1) o (by first | omega | (simp <;> omega))
  clear hc1 hf1
  have hw1 : Below w.heap.size w w1 := (by repeat (first | with_reducible exact Below.refl _ _ | with_reducible assumption | with_reducible refine Below.setCell ?_ (by first | omega | (simp <;> omega)) _ | with_reducible refine balloc ?_ _ | with_reducible refine Below.drew ?_ | with_reducible refine bstep ?_ (by with_reducible assumption)))
  obtain ⟨rfl, ua, ub, uc⟩ := hu1
  go_wp2_with fail
  refine Calls.mono (valid_c _ _ _) ?_
  rintro e w2 ⟨rfl, hb2⟩
  obtain ⟨hc1, hf1⟩ := bcell hb2
  have h1 := fun o => hc1 (w.heap.size + 1) o (by first | omega | (simp <;> omega))
  clear hc1 hf1
  rw [vp]
  have M := fun k W => md_dcovers x y r k W
  go_wp2_with fail
  refine Calls.mono (dcovers_c x y r p1 p2 _ hp ua ⟨ub, uc⟩) ?_
  rintro e w3 ⟨rfl, hb3⟩
  clear M
  go_wp2
  go_ret2
  exact ⟨rfl, (by repeat (first | with_reducible exact Below.refl _ _ | with_reducible assumption | with_reducible refine Below.setCell ?_ (by first | omega | (simp <;> omega)) _ | with_reducible refine balloc ?_ _ | with_reducible refine Below.drew ?_ | with_reducible refine bstep ?_ (by with_reducible assumption)))⟩

set_option maxRecDepth 100000 in
set_option maxHeartbeats 3200000 in
theorem Covers_pol (v : Value) (f : Fe) (p1 p2 : Int) (l : List Po.Pt) (w : World) (hv : FeV w v f) (hf : vaF f = true) (hp : ok p1 p2) (hs : shF f = (.pol l)) : Calls Tryz.prog 18 #[v, (.agg #[.int .i64 p1, .int .i64 p2])] w (Ret w (.tuple #[(.bool (coS (.pol l) p1 p2)), (.int .i64 0)])) := by
  obtain ⟨⟨pa1, ps1, ca1, cs1, rfl, ha1, hs1⟩, hx1, hy1⟩ := hv
  have HF := Lib.hid (show FeV w (.agg #[(.int .i64 (f.id)), (.int .i64 (f.ki)), (.int .i64 (f.x)), (.int .i64 (f.y)), (.int .i64 (f.ra)), .slice pa1 f.ar.length ca1, (.int .i64 (f.de)), (.int .i64 (f.sy)), .slice ps1 f.se.length cs1]) f from ⟨⟨_, _, _, _, rfl, ha1, hs1⟩, hx1, hy1⟩)
  clear ha1 hs1 hx1 hy1
  have vp : okB p1 p2 = true := okB_iff.2 hp
  have E := Lib.hid hs
  clear hs
  go_enter Tryz.func18, Tryz.ntmps18
  go_wp2_with fail
  refine Calls.mono (so_ok _ f _ hf (HF.out.below (by repeat (first | with_reducible exact Below.refl _ _ | with_reducible assumption | with_reducible refine Below.setCell ?_ (by first | omega | (simp <;> omega)) _ | with_reducible refine balloc ?_ _ | with_reducible refine Below.drew ?_ | with_reducible refine bstep ?_ (by with_reducible assumption))))) ?_
  rintro e w1 ⟨u1, rfl, hu1, hb1⟩
  rw [E.out] at hu1
  obtain ⟨hc1, hf1⟩ := bcell hb1
  have hsz := hb1.size
  (try simp at hsz)
  have gs0 : w.heap.size + 1 < w1.heap.size := (by first | omega | (simp <;> omega))
  have g0 := fun o => hc1 (w.heap.size + 1) o (by first | omega | (simp <;> omega))
  clear hc1 hf1
  have hw1 : Below w.heap.size w w1 := (by repeat (first | with_reducible exact Below.refl _ _ | with_reducible assumption | with_reducible refine Below.setCell ?_ (by first | omega | (simp <;> omega)) _ | with_reducible refine balloc ?_ _ | with_reducible refine Below.drew ?_ | with_reducible refine bstep ?_ (by with_reducible assumption)))
  obtain ⟨pu, nu, cu, rfl, ua, ub⟩ := hu1
  have UA := Lib.hid ua
  clear ua
  go_wp2_with fail
  refine Calls.mono (valid_c _ _ _) ?_
  rintro e w2 ⟨rfl, hb2⟩
  obtain ⟨hc1, hf1⟩ := bcell hb2
  have h1 := fun o => hc1 (w.heap.size + 1) o (by first | omega | (simp <;> omega))
  clear hc1 hf1
  rw [vp]
  have M := fun k W => md_pcovers pu nu cu k W
  go_wp2_with fail
  refine Calls.mono (pcovers_c _ l p1 p2 _ (UA.out.below (by repeat (first | with_reducible exact Below.refl _ _ | with_reducible assumption | with_reducible refine Below.setCell ?_ (by first | omega | (simp <;> omega)) _ | with_reducible refine balloc ?_ _ | with_reducible refine Below.drew ?_ | with_reducible refine bstep ?_ (by with_reducible assumption)))) ub hp) ?_
  rintro e w3 ⟨rfl, hb3⟩
  clear M
  go_wp2
  go_ret2
  exact ⟨rfl, (by repeat (first | with_reducible exact Below.refl _ _ | with_reducible assumption | with_reducible refine Below.setCell ?_ (by first | omega | (simp <;> omega)) _ | with_reducible refine balloc ?_ _ | with_reducible refine Below.drew ?_ | with_reducible refine bstep ?_ (by with_reducible assumption)))⟩

set_option maxRecDepth 100000 in
set_option maxHeartbeats 3200000 in
theorem Covers_lig (v : Value) (f : Fe) (p1 p2 : Int) (x y : Int) (q : List Se.Sec) (w : World) (hv : FeV w v f) (hf : vaF f = true) (hp : ok p1 p2) (hs : shF f = (.lig x y q)) : Calls Tryz.prog 18 #[v, (.agg #[.int .i64 p1, .int .i64 p2])] w (Ret w (.tuple #[(.bool (coS (.lig x y q) p1 p2)), (.int .i64 0)])) := by
  obtain ⟨⟨pa1, ps1, ca1, cs1, rfl, ha1, hs1⟩, hx1, hy1⟩ := hv
  have HF := Lib.hid (show FeV w (.agg #[(.int .i64 (f.id)), (.int .i64 (f.ki)), (.int .i64 (f.x)), (.int .i64 (f.y)), (.int .i64 (f.ra)), .slice pa1 f.ar.length ca1, (.int .i64 (f.de)), (.int .i64 (f.sy)), .slice ps1 f.se.length cs1]) f from ⟨⟨_, _, _, _, rfl, ha1, hs1⟩, hx1, hy1⟩)
  clear ha1 hs1 hx1 hy1
  have vp : okB p1 p2 = true := okB_iff.2 hp
  have E := Lib.hid hs
  clear hs
  go_enter Tryz.func18, Tryz.ntmps18
  go_wp2_with fail
  refine Calls.mono (so_ok _ f _ hf (HF.out.below (by repeat (first | with_reducible exact Below.refl _ _ | with_reducible assumption | with_reducible refine Below.setCell ?_ (by first | omega | (simp <;> omega)) _ | with_reducible refine balloc ?_ _ | with_reducible refine Below.drew ?_ | with_reducible refine bstep ?_ (by with_reducible assumption))))) ?_
  rintro e w1 ⟨u1, rfl, hu1, hb1⟩
  rw [E.out] at hu1
  obtain ⟨hc1, hf1⟩ := bcell hb1
  have hsz := hb1.size
  (try simp at hsz)
  have gs0 : w.heap.size + 1 < w1.heap.size := (by first | omega | (simp <;> omega))
  have g0 := fun o => hc1 (w.heap.size + 1) o (by first | omega | (simp <;> omega))
  clear hc1 hf1
  have hw1 : Below w.heap.size w w1 := (by repeat (first | with_reducible exact Below.refl _ _ | with_reducible assumption | with_reducible refine Below.setCell ?_ (by first | omega | (simp <;> omega)) _ | with_reducible refine balloc ?_ _ | with_reducible refine Below.drew ?_ | with_reducible refine bstep ?_ (by with_reducible assumption)))
  obtain ⟨pu, nu, cu, rfl, ua⟩ := hu1
  clear ua
  go_wp2_with fail
  refine Calls.mono (valid_c _ _ _) ?_
  rintro e w2 ⟨rfl, hb2⟩
  obtain ⟨hc1, hf1⟩ := bcell hb2
  have h1 := fun o => hc1 (w.heap.size + 1) o (by first | omega | (simp <;> omega))
  clear hc1 hf1
  rw [vp]
  have M := fun k W => md_lcovers x y (.slice pu nu cu) k W
  go_wp2_with fail
  refine Calls.mono (lcovers_c x y p1 p2 (.slice pu nu cu) _) ?_
  rintro e w3 ⟨rfl, hb3⟩
  clear M
  go_wp2
  go_ret2
  exact ⟨rfl, (by repeat (first | with_reducible exact Below.refl _ _ | with_reducible assumption | with_reducible refine Below.setCell ?_ (by first | omega | (simp <;> omega)) _ | with_reducible refine balloc ?_ _ | with_reducible refine Below.drew ?_ | with_reducible refine bstep ?_ (by with_reducible assumption)))⟩

theorem Covers_ok (v : Value) (f : Fe) (p1 p2 : Int) (w : World) (hv : FeV w v f) (hf : vaF f = true) (hp : ok p1 p2) : Calls Tryz.prog 18 #[v, (.agg #[.int .i64 p1, .int .i64 p2])] w (Ret w (.tuple #[(.bool (coS (shF f) p1 p2)), (.int .i64 0)])) := by
  have e : ∃ s, shF f = s := ⟨_, rfl⟩
  obtain ⟨s, e⟩ := e
  rw [e]
  cases s with
  | dis x y r => exact Covers_dis v f p1 p2 x y r w hv hf hp e
  | pol l => exact Covers_pol v f p1 p2 l w hv hf hp e
  | lig x y q => exact Covers_lig v f p1 p2 x y q w hv hf hp e

set_option maxRecDepth 100000 in
set_option maxHeartbeats 3200000 in
theorem Covers_no (v : Value) (f : Fe) (p1 p2 : Int) (w : World) (hv : FeV w v f) (hn : (vaF f && okB p1 p2) = false) : Calls Tryz.prog 18 #[v, (.agg #[.int .i64 p1, .int .i64 p2])] w (Ret w (.tuple #[(.bool false), (.int .i64 1)])) := by
  obtain ⟨⟨pa1, ps1, ca1, cs1, rfl, ha1, hs1⟩, hx1, hy1⟩ := hv
  have HF := Lib.hid (show FeV w (.agg #[(.int .i64 (f.id)), (.int .i64 (f.ki)), (.int .i64 (f.x)), (.int .i64 (f.y)), (.int .i64 (f.ra)), .slice pa1 f.ar.length ca1, (.int .i64 (f.de)), (.int .i64 (f.sy)), .slice ps1 f.se.length cs1]) f from ⟨⟨_, _, _, _, rfl, ha1, hs1⟩, hx1, hy1⟩)
  clear ha1 hs1 hx1 hy1
  have HN := Lib.hid hn
  clear hn
  cases hf : vaF f
  · go_enter Tryz.func18, Tryz.ntmps18
    go_wp2_with fail
    refine Calls.mono (so_no _ f _ hf (HF.out.below (by repeat (first | with_reducible exact Below.refl _ _ | with_reducible assumption | with_reducible refine Below.setCell ?_ (by first | omega | (simp <;> omega)) _ | with_reducible refine balloc ?_ _ | with_reducible refine Below.drew ?_ | with_reducible refine bstep ?_ (by with_reducible assumption))))) ?_
    rintro e w1 ⟨u1, rfl, hb1⟩
    go_wp2
    go_ret2
    exact ⟨rfl, (by repeat (first | with_reducible exact Below.refl _ _ | with_reducible assumption | with_reducible refine Below.setCell ?_ (by first | omega | (simp <;> omega)) _ | with_reducible refine balloc ?_ _ | with_reducible refine Below.drew ?_ | with_reducible refine bstep ?_ (by with_reducible assumption)))⟩
  · go_enter Tryz.func18, Tryz.ntmps18
    go_wp2_with fail
    refine Calls.mono (so_ok _ f _ hf (HF.out.below (by repeat (first | with_reducible exact Below.refl _ _ | with_reducible assumption | with_reducible refine Below.setCell ?_ (by first | omega | (simp <;> omega)) _ | with_reducible refine balloc ?_ _ | with_reducible refine Below.drew ?_ | with_reducible refine bstep ?_ (by with_reducible assumption))))) ?_
    rintro e w1 ⟨u1, rfl, hu1, hb1⟩
    clear hu1
    have hp : okB p1 p2 = false := by have := HN.out; rw [hf] at this; exact this
    obtain ⟨hc1, hf1⟩ := bcell hb1
    have hsz := hb1.size
    (try simp at hsz)
    have gs0 : w.heap.size + 1 < w1.heap.size := (by first | omega | (simp <;> omega))
    have g0 := fun o => hc1 (w.heap.size + 1) o (by first | omega | (simp <;> omega))
    clear hc1 hf1
    go_wp2_with fail
    refine Calls.mono (valid_c _ _ _) ?_
    rintro e w2 ⟨rfl, hb2⟩
    rw [hp]
    go_wp2
    go_ret2
    exact ⟨rfl, (by repeat (first | with_reducible exact Below.refl _ _ | with_reducible assumption | with_reducible refine Below.setCell ?_ (by first | omega | (simp <;> omega)) _ | with_reducible refine balloc ?_ _ | with_reducible refine Below.drew ?_ | with_reducible refine bstep ?_ (by with_reducible assumption)))⟩


end Go.Proofs.YtfgajejhjbfhjaaGreat.Fe
end

section
namespace Go.Proofs.YtfgajejhjbfhjaaGreat.Fe
open Go.RowKit
set_option linter.unusedSimpArgs false
set_option linter.unusedVariables false

/-- The box of a shape. -/
def bxS : Sh → (Int × Int) × (Int × Int)
  | .dis x y r => ((x - r, x + r), (y - r, y + r))
  | .pol l => Po.bxL l l.length
  | .lig x y _ => ((x, x), (y, y))
def BxPost (x1 x2 x3 x4 : Int) (w : World) (e : Ending) (w' : World) : Prop := e = .returned (.tuple #[.agg #[(.int .i64 x1), (.int .i64 x2), (.int .i64 x3), (.int .i64 x4)], (.int .i64 0)]) ∧ Below w.heap.size w w'

set_option maxRecDepth 100000 in
set_option maxHeartbeats 3200000 in
theorem Box_dis (v : Value) (f : Fe) (x y r : Int) (w : World) (hv : FeV w v f) (hf : vaF f = true) (hs : shF f = (.dis x y r)) : Calls Tryz.prog 28 #[v] w (Ret w (.tuple #[(.agg #[(.int .i64 (wrap64 (x - r))), (.int .i64 (wrap64 (x + r))), (.int .i64 (wrap64 (y - r))), (.int .i64 (wrap64 (y + r)))]), (.int .i64 0)])) := by
  obtain ⟨⟨pa1, ps1, ca1, cs1, rfl, ha1, hs1⟩, hx1, hy1⟩ := hv
  have HF := Lib.hid (show FeV w (.agg #[(.int .i64 (f.id)), (.int .i64 (f.ki)), (.int .i64 (f.x)), (.int .i64 (f.y)), (.int .i64 (f.ra)), .slice pa1 f.ar.length ca1, (.int .i64 (f.de)), (.int .i64 (f.sy)), .slice ps1 f.se.length cs1]) f from ⟨⟨_, _, _, _, rfl, ha1, hs1⟩, hx1, hy1⟩)
  clear ha1 hs1 hx1 hy1
  have E := Lib.hid hs
  clear hs
  go_enter Tryz.func28, Tryz.ntmps28
  go_wp2_with fail
  refine Calls.mono (so_ok _ f _ hf (HF.out.below (by repeat (first | with_reducible exact Below.refl _ _ | with_reducible assumption | with_reducible refine Below.setCell ?_ (by first | omega | (simp <;> omega)) _ | with_reducible refine balloc ?_ _ | with_reducible refine Below.drew ?_ | with_reducible refine bstep ?_ (by with_reducible assumption))))) ?_
  rintro e w1 ⟨u1, rfl, hu1, hb1⟩
  rw [E.out] at hu1
  obtain ⟨hc1, hf1⟩ := bcell hb1
  have hsz := hb1.size
  (try simp at hsz)
  have gs0 : w.heap.size + 1 < w1.heap.size := (by first | omega | (simp <;> omega))
  have j0 := fun o => hf1 (w.heap.size + 1) o (by first | omega | (simp <;> omega))
  have g0 := fun o => hc1 (w.heap.size + 1) o (by first | omega | (simp <;> omega))
  clear hc1 hf1
  have hw1 : Below w.heap.size w w1 := (by repeat (first | with_reducible exact Below.refl _ _ | with_reducible assumption | with_reducible refine Below.setCell ?_ (by first | omega | (simp <;> omega)) _ | with_reducible refine balloc ?_ _ | with_reducible refine Below.drew ?_ | with_reducible refine bstep ?_ (by with_reducible assumption)))
  obtain ⟨rfl, ua, ub, uc⟩ := hu1
  have M := fun k W => md_dbox x y r k W
  have C := fun W => dbox_c x y r W
  generalize wrap64 (x - r) = z0 at *
  generalize wrap64 (x + r) = z1 at *
  generalize wrap64 (y - r) = z2 at *
  generalize wrap64 (y + r) = z3 at *
  go_wp2_with fail
  refine Calls.mono (C _) ?_
  rintro e w2 ⟨rfl, hb2⟩
  clear M C
  obtain ⟨hc1, hf1⟩ := bcell hb2
  have hs2 := hb2.size
  (try simp at hs2)
  have gs1 : w.heap.size + 1 < w2.heap.size := (by first | omega | (simp <;> omega))
  have j1 := fun o => hf1 (w.heap.size + 1) o (by first | omega | (simp <;> omega))
  have g1 := fun o => hc1 (w.heap.size + 1) o (by first | omega | (simp <;> omega))
  clear hc1 hf1
  go_wp2
  refine bodyPost_ret ?_ rfl ⟨rfl, (by repeat (first | with_reducible exact Below.refl _ _ | with_reducible assumption | with_reducible refine Below.setCell ?_ (by first | omega | (simp <;> omega)) _ | with_reducible refine balloc ?_ _ | with_reducible refine Below.drew ?_ | with_reducible refine bstep ?_ (by with_reducible assumption)))⟩
  simp [results, Tryz.results28, go_sem, g0, g1, gs0, gs1]

set_option maxRecDepth 100000 in
set_option maxHeartbeats 3200000 in
theorem Box_pol (v : Value) (f : Fe) (l : List Po.Pt) (w : World) (hv : FeV w v f) (hf : vaF f = true) (hs : shF f = (.pol l)) : Calls Tryz.prog 28 #[v] w (Ret w (.tuple #[(.agg #[(.int .i64 ((Po.bxL l l.length).1.1)), (.int .i64 ((Po.bxL l l.length).1.2)), (.int .i64 ((Po.bxL l l.length).2.1)), (.int .i64 ((Po.bxL l l.length).2.2))]), (.int .i64 0)])) := by
  obtain ⟨⟨pa1, ps1, ca1, cs1, rfl, ha1, hs1⟩, hx1, hy1⟩ := hv
  have HF := Lib.hid (show FeV w (.agg #[(.int .i64 (f.id)), (.int .i64 (f.ki)), (.int .i64 (f.x)), (.int .i64 (f.y)), (.int .i64 (f.ra)), .slice pa1 f.ar.length ca1, (.int .i64 (f.de)), (.int .i64 (f.sy)), .slice ps1 f.se.length cs1]) f from ⟨⟨_, _, _, _, rfl, ha1, hs1⟩, hx1, hy1⟩)
  clear ha1 hs1 hx1 hy1
  have E := Lib.hid hs
  clear hs
  go_enter Tryz.func28, Tryz.ntmps28
  go_wp2_with fail
  refine Calls.mono (so_ok _ f _ hf (HF.out.below (by repeat (first | with_reducible exact Below.refl _ _ | with_reducible assumption | with_reducible refine Below.setCell ?_ (by first | omega | (simp <;> omega)) _ | with_reducible refine balloc ?_ _ | with_reducible refine Below.drew ?_ | with_reducible refine bstep ?_ (by with_reducible assumption))))) ?_
  rintro e w1 ⟨u1, rfl, hu1, hb1⟩
  rw [E.out] at hu1
  obtain ⟨hc1, hf1⟩ := bcell hb1
  have hsz := hb1.size
  (try simp at hsz)
  have gs0 : w.heap.size + 1 < w1.heap.size := (by first | omega | (simp <;> omega))
  have j0 := fun o => hf1 (w.heap.size + 1) o (by first | omega | (simp <;> omega))
  have g0 := fun o => hc1 (w.heap.size + 1) o (by first | omega | (simp <;> omega))
  clear hc1 hf1
  have hw1 : Below w.heap.size w w1 := (by repeat (first | with_reducible exact Below.refl _ _ | with_reducible assumption | with_reducible refine Below.setCell ?_ (by first | omega | (simp <;> omega)) _ | with_reducible refine balloc ?_ _ | with_reducible refine Below.drew ?_ | with_reducible refine bstep ?_ (by with_reducible assumption)))
  obtain ⟨pu, nu, cu, rfl, ua, ub⟩ := hu1
  have UA := Lib.hid ua
  clear ua
  have M := fun k W => md_pbox pu nu cu k W
  have C := fun W h => pbox_c (.slice pu nu cu) l W h ub
  generalize (Po.bxL l l.length).1.1 = z0 at *
  generalize (Po.bxL l l.length).1.2 = z1 at *
  generalize (Po.bxL l l.length).2.1 = z2 at *
  generalize (Po.bxL l l.length).2.2 = z3 at *
  go_wp2_with fail
  refine Calls.mono (C _ (UA.out.below (by repeat (first | with_reducible exact Below.refl _ _ | with_reducible assumption | with_reducible refine Below.setCell ?_ (by first | omega | (simp <;> omega)) _ | with_reducible refine balloc ?_ _ | with_reducible refine Below.drew ?_ | with_reducible refine bstep ?_ (by with_reducible assumption))))) ?_
  rintro e w2 ⟨rfl, hb2⟩
  clear M C
  obtain ⟨hc1, hf1⟩ := bcell hb2
  have hs2 := hb2.size
  (try simp at hs2)
  have gs1 : w.heap.size + 1 < w2.heap.size := (by first | omega | (simp <;> omega))
  have j1 := fun o => hf1 (w.heap.size + 1) o (by first | omega | (simp <;> omega))
  have g1 := fun o => hc1 (w.heap.size + 1) o (by first | omega | (simp <;> omega))
  clear hc1 hf1
  go_wp2
  refine bodyPost_ret ?_ rfl ⟨rfl, (by repeat (first | with_reducible exact Below.refl _ _ | with_reducible assumption | with_reducible refine Below.setCell ?_ (by first | omega | (simp <;> omega)) _ | with_reducible refine balloc ?_ _ | with_reducible refine Below.drew ?_ | with_reducible refine bstep ?_ (by with_reducible assumption)))⟩
  simp [results, Tryz.results28, go_sem, g0, g1, gs0, gs1]

set_option maxRecDepth 100000 in
set_option maxHeartbeats 3200000 in
theorem Box_lig (v : Value) (f : Fe) (x y : Int) (q : List Se.Sec) (w : World) (hv : FeV w v f) (hf : vaF f = true) (hs : shF f = (.lig x y q)) : Calls Tryz.prog 28 #[v] w (Ret w (.tuple #[(.agg #[(.int .i64 x), (.int .i64 x), (.int .i64 y), (.int .i64 y)]), (.int .i64 0)])) := by
  obtain ⟨⟨pa1, ps1, ca1, cs1, rfl, ha1, hs1⟩, hx1, hy1⟩ := hv
  have HF := Lib.hid (show FeV w (.agg #[(.int .i64 (f.id)), (.int .i64 (f.ki)), (.int .i64 (f.x)), (.int .i64 (f.y)), (.int .i64 (f.ra)), .slice pa1 f.ar.length ca1, (.int .i64 (f.de)), (.int .i64 (f.sy)), .slice ps1 f.se.length cs1]) f from ⟨⟨_, _, _, _, rfl, ha1, hs1⟩, hx1, hy1⟩)
  clear ha1 hs1 hx1 hy1
  have E := Lib.hid hs
  clear hs
  go_enter Tryz.func28, Tryz.ntmps28
  go_wp2_with fail
  refine Calls.mono (so_ok _ f _ hf (HF.out.below (by repeat (first | with_reducible exact Below.refl _ _ | with_reducible assumption | with_reducible refine Below.setCell ?_ (by first | omega | (simp <;> omega)) _ | with_reducible refine balloc ?_ _ | with_reducible refine Below.drew ?_ | with_reducible refine bstep ?_ (by with_reducible assumption))))) ?_
  rintro e w1 ⟨u1, rfl, hu1, hb1⟩
  rw [E.out] at hu1
  obtain ⟨hc1, hf1⟩ := bcell hb1
  have hsz := hb1.size
  (try simp at hsz)
  have gs0 : w.heap.size + 1 < w1.heap.size := (by first | omega | (simp <;> omega))
  have j0 := fun o => hf1 (w.heap.size + 1) o (by first | omega | (simp <;> omega))
  have g0 := fun o => hc1 (w.heap.size + 1) o (by first | omega | (simp <;> omega))
  clear hc1 hf1
  have hw1 : Below w.heap.size w w1 := (by repeat (first | with_reducible exact Below.refl _ _ | with_reducible assumption | with_reducible refine Below.setCell ?_ (by first | omega | (simp <;> omega)) _ | with_reducible refine balloc ?_ _ | with_reducible refine Below.drew ?_ | with_reducible refine bstep ?_ (by with_reducible assumption)))
  obtain ⟨pu, nu, cu, rfl, ua, uc, ud⟩ := hu1
  clear ua
  have M := fun k W => md_lbox x y (.slice pu nu cu) k W
  have C := fun W => lbox_c x y (.slice pu nu cu) W ud
  go_wp2_with fail
  refine Calls.mono (C _) ?_
  rintro e w2 ⟨rfl, hb2⟩
  clear M C
  obtain ⟨hc1, hf1⟩ := bcell hb2
  have hs2 := hb2.size
  (try simp at hs2)
  have gs1 : w.heap.size + 1 < w2.heap.size := (by first | omega | (simp <;> omega))
  have j1 := fun o => hf1 (w.heap.size + 1) o (by first | omega | (simp <;> omega))
  have g1 := fun o => hc1 (w.heap.size + 1) o (by first | omega | (simp <;> omega))
  clear hc1 hf1
  go_wp2
  refine bodyPost_ret ?_ rfl ⟨rfl, (by repeat (first | with_reducible exact Below.refl _ _ | with_reducible assumption | with_reducible refine Below.setCell ?_ (by first | omega | (simp <;> omega)) _ | with_reducible refine balloc ?_ _ | with_reducible refine Below.drew ?_ | with_reducible refine bstep ?_ (by with_reducible assumption)))⟩
  simp [results, Tryz.results28, go_sem, g0, g1, gs0, gs1]

set_option maxRecDepth 100000 in
set_option maxHeartbeats 3200000 in
theorem Box_no (v : Value) (f : Fe) (w : World) (hv : FeV w v f) (hf : vaF f = false) : Calls Tryz.prog 28 #[v] w (Ret w (.tuple #[.agg #[(.int .i64 0), (.int .i64 0), (.int .i64 0), (.int .i64 0)], (.int .i64 1)])) := by
  obtain ⟨⟨pa1, ps1, ca1, cs1, rfl, ha1, hs1⟩, hx1, hy1⟩ := hv
  have HF := Lib.hid (show FeV w (.agg #[(.int .i64 (f.id)), (.int .i64 (f.ki)), (.int .i64 (f.x)), (.int .i64 (f.y)), (.int .i64 (f.ra)), .slice pa1 f.ar.length ca1, (.int .i64 (f.de)), (.int .i64 (f.sy)), .slice ps1 f.se.length cs1]) f from ⟨⟨_, _, _, _, rfl, ha1, hs1⟩, hx1, hy1⟩)
  clear ha1 hs1 hx1 hy1
  go_enter Tryz.func28, Tryz.ntmps28
  go_wp2_with fail
  refine Calls.mono (so_no _ f _ hf (HF.out.below (by repeat (first | with_reducible exact Below.refl _ _ | with_reducible assumption | with_reducible refine Below.setCell ?_ (by first | omega | (simp <;> omega)) _ | with_reducible refine balloc ?_ _ | with_reducible refine Below.drew ?_ | with_reducible refine bstep ?_ (by with_reducible assumption))))) ?_
  rintro e w1 ⟨u1, rfl, hb1⟩
  obtain ⟨hc1, hf1⟩ := bcell hb1
  have hsz := hb1.size
  (try simp at hsz)
  have gs0 : w.heap.size + 1 < w1.heap.size := (by first | omega | (simp <;> omega))
  have j0 := fun o => hf1 (w.heap.size + 1) o (by first | omega | (simp <;> omega))
  have g0 := fun o => hc1 (w.heap.size + 1) o (by first | omega | (simp <;> omega))
  clear hc1 hf1
  go_wp2
  refine bodyPost_ret ?_ rfl ⟨rfl, (by repeat (first | with_reducible exact Below.refl _ _ | with_reducible assumption | with_reducible refine Below.setCell ?_ (by first | omega | (simp <;> omega)) _ | with_reducible refine balloc ?_ _ | with_reducible refine Below.drew ?_ | with_reducible refine bstep ?_ (by with_reducible assumption)))⟩
  simp [results, Tryz.results28, go_sem, g0, gs0]



end Go.Proofs.YtfgajejhjbfhjaaGreat.Fe
end

section
namespace Go.Proofs.YtfgajejhjbfhjaaGreat.Fe
open Go.RowKit
set_option linter.unusedSimpArgs false
set_option linter.unusedVariables false

def zeroF : Fe := ⟨0, 0, 0, 0, 0, [], 0, 0, []⟩
def gf (l : List Fe) (i : Nat) : Fe := l.getD i zeroF
/-- A feature lies in block b from cell o on. -/
def FeC (w : World) (b o : Nat) (f : Fe) : Prop :=
  (∃ (pa ps : Option Addr) (ca cs : Nat), w.cell? ⟨b, o, none⟩ = some (.int .i64 (f.id)) ∧ w.cell? ⟨b, o + 1, none⟩ = some (.int .i64 (f.ki)) ∧ w.cell? ⟨b, o + 2, none⟩ = some (.int .i64 (f.x)) ∧ w.cell? ⟨b, o + 3, none⟩ = some (.int .i64 (f.y)) ∧ w.cell? ⟨b, o + 4, none⟩ = some (.int .i64 (f.ra)) ∧ w.cell? ⟨b, o + 5, none⟩ = some (.slice pa f.ar.length ca) ∧ w.cell? ⟨b, o + 6, none⟩ = some (.int .i64 (f.de)) ∧ w.cell? ⟨b, o + 7, none⟩ = some (.int .i64 (f.sy)) ∧ w.cell? ⟨b, o + 8, none⟩ = some (.slice ps f.se.length cs)
    ∧ Po.Pts w (.slice pa f.ar.length ca) f.ar ∧ Se.Secs w (.slice ps f.se.length cs) f.se) ∧ i64 f.x ∧ i64 f.y
theorem FeC.below {w W : World} {b o : Nat} {f : Fe} (h : FeC w b o f) (hb : Below w.heap.size w W) : FeC W b o f := by
  obtain ⟨⟨pa, ps, ca, cs, c0, c1, c2, c3, c4, c5, c6, c7, c8, h1, h2⟩, h3⟩ := h
  exact ⟨⟨pa, ps, ca, cs, cell_later hb c0, cell_later hb c1, cell_later hb c2, cell_later hb c3, cell_later hb c4, cell_later hb c5, cell_later hb c6, cell_later hb c7, cell_later hb c8, h1.below hb, h2.below hb⟩, h3⟩
def FRow (w : World) (b off : Nat) (l : List Fe) : Prop := ∀ i, i < l.length → FeC w b (off + i * 9) (gf l i)
theorem FRow.below {w W : World} {b off : Nat} {l : List Fe} (h : FRow w b off l) (hb : Below w.heap.size w W) : FRow W b off l := fun i hi => (h i hi).below hb
/-- A slice whose features are l. -/
structure Feas (w : World) (v : Value) (l : List Fe) : Prop where
  ex : ∃ (p : Option Addr) (cap : Nat), v = .slice p l.length cap ∧ (0 < l.length → ∃ b off, p = some ⟨b, off, none⟩ ∧ FRow w b off l)
  len : l.length ≤ 9223372036854775807
theorem Feas.below {w W : World} {v : Value} {l : List Fe} (h : Feas w v l) (hb : Below w.heap.size w W) : Feas W v l := by
  obtain ⟨⟨p, cap, hv, hp⟩, hl⟩ := h
  refine ⟨⟨p, cap, hv, fun h0 => ?_⟩, hl⟩
  obtain ⟨b, off, rfl, hr⟩ := hp h0
  exact ⟨b, off, rfl, hr.below hb⟩
/-- The first k are valid, with rising IDs. -/
def okK (l : List Fe) : Nat → Bool
  | 0 => true
  | k + 1 => okK l k && vaF (gf l k) && (decide (k = 0) || decide ((gf l (k - 1)).id < (gf l k).id))
def vaFs (l : List Fe) : Bool := decide (l.length ≤ 300) && okK l l.length
theorem okK_mono {l : List Fe} {k n : Nat} (h : k ≤ n) (hs : okK l n = true) : okK l k = true := by
  obtain ⟨m, rfl⟩ := Nat.exists_eq_add_of_le h
  induction m with
  | zero => exact hs
  | succ m ih => rw [← Nat.add_assoc] at hs; simp only [okK, Bool.and_eq_true] at hs; exact ih (by omega) hs.1.1
theorem okK_va {l : List Fe} {n k : Nat} (hs : okK l n = true) (hk : k < n) : vaF (gf l k) = true := by
  have := okK_mono hk hs
  simp only [okK, Bool.and_eq_true] at this
  exact this.1.2
theorem okK_false {l : List Fe} {n k : Nat} (hk : k < n) (h : (vaF (gf l k) && (decide (k = 0) || decide ((gf l (k - 1)).id < (gf l k).id))) = false) : okK l n = false := by
  rw [Bool.eq_false_iff]
  intro hs
  have := okK_mono hk hs
  simp only [okK, Bool.and_assoc] at this
  rw [h, Bool.and_false] at this
  cases this
/-- Shapes in a row. -/
def SRow (w w' : World) (g : Nat) (l : List Fe) : Prop := ∀ i, i < l.length → ∃ u, w'.cell? ⟨g, i, none⟩ = some u ∧ ShV w u (shF (gf l i))
def ShsPost (l : List Fe) (w : World) (e : Ending) (w' : World) : Prop :=
  ∃ u, e = .returned (.tuple #[u, (.bool (vaFs l))]) ∧ (vaFs l = true → ∃ g, u = .slice (some ⟨g, 0, none⟩) l.length l.length ∧ w.heap.size ≤ g ∧ g < w'.heap.size ∧ SRow w w' g l) ∧ Below w.heap.size w w'
theorem shV_iface {w : World} {u : Value} {s : Sh} (h : ShV w u s) : ∃ T x, u = .iface T x := by
  cases s with
  | dis x y r => exact ⟨_, _, h.1⟩
  | pol l => obtain ⟨p, n, c, hu, _⟩ := h; exact ⟨_, _, hu⟩
  | lig x y s => obtain ⟨p, n, c, hu, _⟩ := h; exact ⟨_, _, hu⟩
theorem info_sh : (Tryz.prog.info? 57).map (fun i => (i.zero, i.size, i.bytes)) = some (some .nilIface, 1, 16) := by kernel_rfl
theorem made_eq (n : Nat) : (madeCells (Value.nilIface).cells (n * 1)).toList = List.replicate n .nilIface := by
  have hz : (Value.nilIface).cells = #[.nilIface] := rfl
  rw [List.eq_replicate_iff]
  refine ⟨by simp [madeCells], fun b hb => ?_⟩
  rw [hz] at hb
  simp only [madeCells, Array.toList_map, List.mem_map] at hb
  obtain ⟨i, _, rfl⟩ := hb
  have : i % 1 = 0 := Nat.mod_one i
  simp [this]
theorem gcell {W W' : World} (h : W.grownBy W' none) (a : Addr) (hl : a.block < W.heap.size) : W'.cell? a = W.cell? a := by
  have := h.block a.block hl (by simp)
  simp [World.cell?, this]
theorem bgrown {w0 W W' : World} (h0 : Below w0.heap.size w0 W) (h : W.grownBy W' none) : Below w0.heap.size w0 W' := h0.grown h h0.size (fun k e => by cases e)
theorem own_below {W W' : World} {base : Nat} {e : TypeId} {size : Nat} {v : Value} {n : Nat} {xs : List Value} (h : W.ownsRow base e size v n xs) (hb : Below W.heap.size W W') : W'.ownsRow base e size v n xs := by
  have hg : W.grownBy W' none := ⟨hb.os, hb.tape, hb.output, hb.size, fun k hk _ => hb.block k hk⟩
  exact h.kept hg (by cases hv : v.ownBlock with | none => exact .inl rfl | some k => exact .inr (by simp))
theorem info_parts {i : Option TypeInfo} {z : Value} {n b : Nat} (h : i.map (fun i => (i.zero, i.size, i.bytes)) = some (some z, n, b)) : ∃ j, i = some j ∧ j.zero = some z ∧ j.size = n ∧ j.bytes = b := by
  obtain ⟨j, hj, hh⟩ := Option.map_eq_some_iff.1 h
  simp only [Prod.mk.injEq] at hh
  exact ⟨j, hj, hh.1, hh.2.1, hh.2.2⟩
theorem below_dn {B n : Nat} {a b : World} (h : Below B a b) : Below B a (b.drewN n) := ⟨h.os, h.tape, h.output, h.size, h.block⟩
theorem set_mid2 {us : List Value} {m k : Nat} (hk : us.length = k) (u : Value) : (us ++ List.replicate (m + 1) Value.nilIface).set k u = (us ++ [u]) ++ List.replicate m .nilIface := by
  subst hk
  rw [List.replicate_succ, List.set_append, if_neg (by omega), Nat.sub_self]
  simp
theorem set_mid {us : List Value} {m : Nat} (u : Value) : (us ++ List.replicate (m + 1) Value.nilIface).set us.length u = (us ++ [u]) ++ List.replicate m .nilIface := by
  rw [List.replicate_succ, List.set_append, if_neg (by omega), Nat.sub_self]
  simp

end Go.Proofs.YtfgajejhjbfhjaaGreat.Fe
end

section
namespace Go.Proofs.YtfgajejhjbfhjaaGreat.Fe
open Go.RowKit
set_option linter.unusedSimpArgs false
set_option linter.unusedVariables false

set_option maxRecDepth 100000 in
set_option maxHeartbeats 6400000 in
theorem shapesOf_c (v : Value) (l : List Fe) (w : World) (h : Feas w v l) : Calls Tryz.prog 39 #[v] w (ShsPost l w) := by
  obtain ⟨⟨p, cap, rfl, hp⟩, hlen⟩ := h
  by_cases h300 : 300 < l.length
  · have hv : vaFs l = false := by unfold vaFs; rw [decide_eq_false (by omega)]; rfl
    have HV := Lib.hid hv
    have HP := Lib.hid hp
    have h1 : (300 : Int) < (l.length : Int) := by omega
    clear hv hp
    go_enter Tryz.func39, Tryz.ntmps39
    go_wp2
    go_ret2
    unfold ShsPost
    rw [HV.out]
    exact ⟨_, rfl, fun h => (by cases h), (by repeat (first | with_reducible exact Below.refl _ _ | with_reducible assumption | with_reducible refine Below.setCell ?_ (by first | omega | (simp <;> omega)) _ | with_reducible refine balloc ?_ _ | with_reducible refine Below.drew ?_ | with_reducible refine bstep ?_ (by with_reducible assumption)))⟩
  · have h1 : ¬ ((300 : Int) < (l.length : Int)) := by omega
    have h2 : (l.length : Int) ≤ 300 := by omega
    have HP := Lib.hid hp
    clear hp
    obtain ⟨i0, hi, hz0, hz1, hz2⟩ := info_parts info_sh
    have HI := Lib.hid hi
    clear hi
    go_enter Tryz.func39, Tryz.ntmps39
    go_wp2_with (refine wpList_make_full (o := ⟨some 14, _, _, _, _, _⟩) _ rfl _ _ 64 rfl (w.heap.size) 57 i0 .nilIface 1 Tryz.underlying64 HI.out hz0 hz1 .i64 .i64 _ _ l.length rfl rfl rfl rfl (by rw [hz2]; omega) (by unfold maxLen; omega) (by simp) ?_; intro wm hown hgrow)
    have hBm : Below w.heap.size w wm := bgrown (Below.refl _ _) hgrow
    rw [made_eq] at hown
    have hgm : w.heap.size < wm.heap.size := (hown.lt _ rfl).2
    clear hgrow
    obtain ⟨gH, hG⟩ : ∃ gH, w.heap.size = gH := ⟨_, rfl⟩
    have hwg : w.heap.size ≤ gH := by omega
    have HB := Lib.hid hBm
    clear hBm
    rw [hG] at hown hgm
    (try simp only [hG])
    clear hG
    have HO := Lib.hid hown
    clear hown
    go_loopw [17] (fun i wr => ∃ k : Nat, i = (.int .i64 k) ∧ k ≤ l.length ∧ Hid (okK l k = true) ∧ Hid (∃ us : List Value, us.length = k ∧ wr.ownsRow gH 57 1 (.slice (some ⟨gH, 0, none⟩) l.length l.length) l.length (us ++ List.replicate (l.length - k) .nilIface) ∧ ∀ i, i < k → ∃ u, us[i]? = some u ∧ ShV w u (shF (gf l i))) ∧ Below gH wm wr ∧ gH < wr.heap.size) (fun i _ => l.length - (intOf i).toNat)
    case atStart => exact ⟨0, rfl, by omega, Lib.hid rfl, Lib.hid ⟨[], rfl, HO.out, fun i hi => by omega⟩, Below.refl _ _, hgm⟩
    case round =>
      obtain ⟨k, rfl, hk, HA, HOk, hbel, hgr⟩ := hrel
      have hbw : Below w.heap.size w wr := HB.out.trans (hbel.mono hwg)
      by_cases hlt : k < l.length
      · obtain ⟨b, off, rfl, hr⟩ := HP.out (by omega)
        have hrk := hr k hlt
        have hrw := hrk.below hbw
        have hprev : 0 < k → wr.cell? ⟨b, off + (k - 1) * 9, none⟩ = some (.int .i64 ((gf l (k - 1)).id)) := fun h0 => by
          obtain ⟨⟨pa, ps, ca, cs, c0, _⟩, _⟩ := (hr (k - 1) (by omega)).below hbw
          exact c0
        have hbb : b < wr.heap.size := by obtain ⟨⟨pa, ps, ca, cs, c0, _⟩, _⟩ := hrw; exact World.block_lt_of_cell? _ _ c0
        have hgb : b < w.heap.size := by obtain ⟨⟨pa, ps, ca, cs, c0, _⟩, _⟩ := hrk; exact World.block_lt_of_cell? _ _ c0
        have HFK := Lib.hid hrk
        clear hrk hr
        obtain ⟨⟨pa, ps, ca, cs, c0, c1, c2, c3, c4, c5, c6, c7, c8, ha, hs⟩, hx, hy⟩ := hrw
        have HFV := Lib.hid (show FeV wr (.agg #[(.int .i64 ((gf l k).id)), (.int .i64 ((gf l k).ki)), (.int .i64 ((gf l k).x)), (.int .i64 ((gf l k).y)), (.int .i64 ((gf l k).ra)), .slice pa (gf l k).ar.length ca, (.int .i64 ((gf l k).de)), (.int .i64 ((gf l k).sy)), .slice ps (gf l k).se.length cs]) (gf l k) from ⟨⟨_, _, _, _, rfl, ha, hs⟩, hx, hy⟩)
        clear ha hs hx hy
        have HBW := Lib.hid hbw
        have HL := Lib.hid hbel
        have HPV := Lib.hid hprev
        clear hbw hbel hprev
        generalize hfk : gf l k = fk at *
        have HFE := Lib.hid hfk
        clear hfk
        go_wp2_with fail
        refine Calls.mono (shapeOf_a _ fk _ (HFV.out.below (by repeat (first | with_reducible exact Below.refl _ _ | with_reducible assumption | with_reducible refine Below.setCell ?_ (by first | omega | (simp <;> omega)) _ | with_reducible refine balloc ?_ _ | with_reducible refine Below.drew ?_ | with_reducible refine bstep ?_ (by with_reducible assumption))))) ?_
        rintro e w1 ⟨u1, rfl, hu1, hb1⟩
        have hx1 : Below wr.heap.size wr w1 := (by repeat (first | with_reducible exact Below.refl _ _ | with_reducible assumption | with_reducible refine Below.setCell ?_ (by first | omega | (simp <;> omega)) _ | with_reducible refine balloc ?_ _ | with_reducible refine Below.drew ?_ | with_reducible refine bstep ?_ (by with_reducible assumption)))
        obtain ⟨hc1, hf1⟩ := bcell hb1
        have hsz := hb1.size
        (try simp at hsz)
        have gs0 : wr.heap.size < w1.heap.size := (by first | omega | (simp <;> omega))
        have g0 := fun o => hc1 wr.heap.size o (by first | omega | (simp <;> omega))
        have gb := fun o => hc1 b o (by first | omega | (simp <;> omega))
        clear hc1 hf1 hsz
        have hfv0 : FeV w (.agg #[(.int .i64 (fk.id)), (.int .i64 (fk.ki)), (.int .i64 (fk.x)), (.int .i64 (fk.y)), (.int .i64 (fk.ra)), .slice pa fk.ar.length ca, (.int .i64 (fk.de)), (.int .i64 (fk.sy)), .slice ps fk.se.length cs]) fk := by
          obtain ⟨⟨pa2, ps2, ca2, cs2, d0, d1, d2, d3, d4, d5, d6, d7, d8, h1, h2⟩, h3⟩ := HFK.out
          have e5 := (HBW.out.cell (p := ⟨b, off + k * 9 + 5, none⟩) hgb).trans d5
          have e8 := (HBW.out.cell (p := ⟨b, off + k * 9 + 8, none⟩) hgb).trans d8
          rw [c5] at e5
          rw [c8] at e8
          simp only [Option.some.injEq, Value.slice.injEq, true_and] at e5 e8
          obtain ⟨rfl, rfl⟩ := e5
          obtain ⟨rfl, rfl⟩ := e8
          exact ⟨⟨_, _, _, _, rfl, h1, h2⟩, h3⟩
        cases hva : vaF fk
        · have HVA := Lib.hid hva
          clear hva hu1 hfv0
          have HX := Lib.hid hx1
          clear hx1
          go_wp2_with fail
          go_region
          go_wp2
          go_ret2
          unfold ShsPost
          have e : vaFs l = false := by
            unfold vaFs
            rw [okK_false hlt (by rw [HFE.out, HVA.out]; rfl), Bool.and_false]
          rw [e]
          have hb := HX.out
          have hb2 := HBW.out
          exact ⟨_, rfl, fun h => (by cases h), (by repeat (first | with_reducible exact Below.refl _ _ | with_reducible assumption | with_reducible refine Below.setCell ?_ (by first | omega | (simp <;> omega)) _ | with_reducible refine balloc ?_ _ | with_reducible refine Below.drew ?_ | with_reducible refine bstep ?_ (by with_reducible assumption)))⟩
        · have hs1 := hu1 hva w hfv0
          obtain ⟨T, x, rfl⟩ := shV_iface hs1
          have HVA := Lib.hid hva
          have HS1 := Lib.hid hs1
          clear hva hu1 hs1 hfv0
          obtain ⟨us, hul, hown, hus⟩ := HOk.out
          have hown1 := own_below hown hx1
          obtain ⟨m, hm⟩ : ∃ m, l.length - k = m + 1 := ⟨l.length - k - 1, by omega⟩
          have hm2 : l.length - (k + 1) = m := by omega
          rw [hm] at hown1
          have o0 := hown1.cellAt k (by omega)
          have hg : (us ++ List.replicate (m + 1) Value.nilIface)[k]? = some .nilIface := by rw [List.getElem?_append_right (by omega), hul, Nat.sub_self]; rfl
          rw [hg] at o0
          have f0 := hown1.frozenAt k
          have hst := (hown1.stored k (.iface T x)).1
          have HST := Lib.hid (show w1.heap.size = w1.heap.size ∧ (w1.setCell ⟨gH, k, none⟩ (.iface T x)).ownsRow gH 57 1 (.slice (some ⟨gH, 0, none⟩) l.length l.length) l.length ((us ++ [.iface T x]) ++ List.replicate m .nilIface) from ⟨rfl, by rw [← set_mid, hul]; exact hst⟩)
          have HO1 := Lib.hid hown1
          have HUS := Lib.hid hus
          have HUL := Lib.hid hul
          have HM := Lib.hid hm2
          clear hst hown1 hown hg hus hul hm hm2
          have HX := Lib.hid hx1
          have hX : Below gH wm w1 := HL.out.trans (hx1.mono (by omega))
          have HXX := Lib.hid hX
          have hx1B := Lib.hid hx1
          clear hx1 hX
          have hgn : gH ≠ wr.heap.size := by omega
          have hg1 : gH < w1.heap.size := by omega
          have fin : okK l k = true → (decide (k = 0) || decide ((gf l (k - 1)).id < fk.id)) = true → okK l (k + 1) = true := fun h1 h2 => by
            simp only [okK]
            rw [h1, HFE.out, HVA.out, h2]
            rfl
          have FIN := Lib.hid fin
          clear fin
          rcases Nat.eq_zero_or_pos k with h0 | h0
          · have hz : decide (0 < k) = false := decide_eq_false (by omega)
            have HZ := Lib.hid h0
            clear h0
            go_wp2_with fail
            go_region
            go_wp2_with fail
            go_roundw
            case rel => exact ⟨k + 1, by go_num, by omega, Lib.hid (FIN.out HA.out (by rw [decide_eq_true HZ.out]; rfl)), Lib.hid ⟨us ++ [.iface T x], by simp [HUL.out], by rw [HM.out]; exact HST.out.2.drew, fun i hi => by
                    rcases Nat.lt_or_ge i k with h | h
                    · obtain ⟨u, hu, hs⟩ := HUS.out i h
                      exact ⟨u, by rw [List.getElem?_append_left (by rw [HUL.out]; exact h)]; exact hu, hs⟩
                    · obtain rfl : i = k := by omega
                      exact ⟨_, by rw [List.getElem?_append_right (by rw [HUL.out]; omega), HUL.out, Nat.sub_self]; rfl, by rw [HFE.out]; exact HS1.out⟩⟩, (HXX.out.setCell (p := ⟨gH, k, none⟩) (Nat.le_refl _) _).drew, by simp [World.drew, World.setCell]; omega⟩
            case measure => simp [intOf]; omega
          · have hz : decide (0 < k) = true := decide_eq_true h0
            obtain ⟨j, hj⟩ : ∃ j, k - 1 = j := ⟨_, rfl⟩
            have hp1 := HPV.out h0
            rw [hj] at hp1
            have hp2 := cell_later hx1B.out hp1
            generalize hpi : (gf l j).id = pid at *
            have HPI := Lib.hid hpi
            have hw1 : wrap64 ((k : Int) - 1) = (j : Int) := (IntWalk.wrap64_in _ (by omega)).trans (by omega)
            have hw2 : IntKind.i64.wrap ((k : Int) - 1) = (j : Int) := (IntWalk.i64_in _ (by omega)).trans (by omega)
            have hjl : j < l.length := by omega
            have hj0 : ((j : Nat) : Int) < (l.length : Int) := by omega
            have HJ := Lib.hid hj
            have HZ := Lib.hid h0
            clear h0 hj hpi
            by_cases hle : fk.id ≤ pid
            · have hd : decide (fk.id ≤ pid) = true := decide_eq_true hle
              have HLE := Lib.hid hle
              clear hle
              go_wp2_with fail
              go_quiet (fail)
              go_wp2
              go_ret2
              unfold ShsPost
              have e : vaFs l = false := by
                unfold vaFs
                rw [okK_false hlt (by rw [HFE.out, HJ.out, HPI.out, HVA.out, decide_eq_false (show ¬ (k = 0) by have := HZ.out; omega), decide_eq_false (show ¬ (pid < fk.id) by have := HLE.out; omega)]; rfl), Bool.and_false]
              rw [e]
              have hb := HX.out
              have hb2 := HBW.out
              exact ⟨_, rfl, fun h => (by cases h), below_dn (show Below w.heap.size w w1 from (by repeat (first | with_reducible exact Below.refl _ _ | with_reducible assumption | with_reducible refine Below.setCell ?_ (by first | omega | (simp <;> omega)) _ | with_reducible refine balloc ?_ _ | with_reducible refine Below.drew ?_ | with_reducible refine bstep ?_ (by with_reducible assumption))))⟩
            · have hd : decide (fk.id ≤ pid) = false := decide_eq_false hle
              have HLE := Lib.hid hle
              clear hle
              go_wp2_with fail
              go_quiet (fail)
              go_wp2_with fail
              go_roundw
              case rel => exact ⟨k + 1, by go_num, by omega, Lib.hid (FIN.out HA.out (by rw [HJ.out, HPI.out, decide_eq_true (show pid < fk.id by have := HLE.out; omega), Bool.or_true])), Lib.hid ⟨us ++ [.iface T x], by simp [HUL.out], by rw [HM.out]; have h := ((own_below HO1.out (below_dn (n := nq) (Below.refl w1.heap.size w1))).stored k (.iface T x)).1; rw [set_mid2 HUL.out] at h; exact h, fun i hi => by
                      rcases Nat.lt_or_ge i k with h | h
                      · obtain ⟨u, hu, hs⟩ := HUS.out i h
                        exact ⟨u, by rw [List.getElem?_append_left (by rw [HUL.out]; exact h)]; exact hu, hs⟩
                      · obtain rfl : i = k := by omega
                        exact ⟨_, by rw [List.getElem?_append_right (by rw [HUL.out]; omega), HUL.out, Nat.sub_self]; rfl, by rw [HFE.out]; exact HS1.out⟩⟩, (below_dn HXX.out).setCell (p := ⟨gH, k, none⟩) (Nat.le_refl _) _, by simp [World.drewN, World.setCell]; omega⟩
              case measure => simp [intOf]; omega
      · obtain rfl : k = l.length := by omega
        have HBW := Lib.hid hbw
        clear hbw hbel
        go_wp2
        go_ret2
        unfold ShsPost
        have e : vaFs l = true := by
          unfold vaFs
          rw [HA.out, decide_eq_true (by omega)]
          rfl
        rw [e]
        obtain ⟨us, hul, hown, hus⟩ := HOk.out
        refine ⟨_, rfl, fun _ => ⟨gH, rfl, hwg, hgr, fun i hi => ?_⟩, HBW.out⟩
        obtain ⟨u, hu, hs⟩ := hus i hi
        refine ⟨u, ?_, hs⟩
        rw [hown.cellAt i (by omega), List.getElem?_append_left (by omega)]
        exact hu

end Go.Proofs.YtfgajejhjbfhjaaGreat.Fe
end

section
namespace Go.Proofs.YtfgajejhjbfhjaaGreat.Fe
open Go.RowKit
set_option linter.unusedSimpArgs false
set_option linter.unusedVariables false

/-- What a shape's method 'covers' is. -/
theorem cov_any {w : World} {u : Value} {s : Sh} (h : ShV w u s) : ∃ T x K, u = .iface T x ∧ (K = 139 ∨ K = 195 ∨ K = 132) ∧ (∀ (k : Nat) (W : World), (method (k + 1) T x "seamark/feature.covers").run Tryz.prog W = .ok (K, x) W)
    ∧ ∀ (W : World) (p1 p2 : Int), ok p1 p2 → Below w.heap.size w W → Calls Tryz.prog K #[x, (.agg #[.int .i64 p1, .int .i64 p2])] W (Ret W (.bool (coS s p1 p2))) := by
  cases s with
  | dis x y r => obtain ⟨rfl, h1, h2, h3⟩ := h; exact ⟨_, _, _, rfl, .inl rfl, fun k W => md_dcovers x y r k W, fun W p1 p2 hp _ => dcovers_c x y r p1 p2 W hp h1 ⟨h2, h3⟩⟩
  | pol l => obtain ⟨p, n, c, rfl, h1, h2⟩ := h; exact ⟨_, _, _, rfl, .inr (.inl rfl), fun k W => md_pcovers p n c k W, fun W p1 p2 hp hb => pcovers_c _ l p1 p2 W (h1.below hb) h2 hp⟩
  | lig x y q => obtain ⟨p, n, c, rfl, h1, h2, h3⟩ := h; exact ⟨_, _, _, rfl, .inr (.inr rfl), fun k W => md_lcovers x y _ k W, fun W p1 p2 hp hb => lcovers_c x y p1 p2 _ W⟩
/-- What is shown of the first k. -/
def shK (l : List Fe) (p1 p2 : Int) : Nat → Int
  | 0 => 100000
  | k + 1 => if coS (shF (gf l k)) p1 p2 = true then min (shK l p1 p2 k) (gf l k).de else shK l p1 p2 k

set_option maxRecDepth 100000 in
theorem List_c (v : Value) (l : List Fe) (w : World) (h : Feas w v l) : Calls Tryz.prog 14 #[v] w (Ret w (.bool (vaFs l))) := by
  have H := Lib.hid h
  obtain ⟨⟨p, cap, rfl, hp⟩, hlen⟩ := h
  clear hp hlen
  go_enter Tryz.func14, Tryz.ntmps14
  go_wp2_with fail
  refine Calls.mono (shapesOf_c _ l _ (H.out.below (by repeat (first | with_reducible exact Below.refl _ _ | with_reducible assumption | with_reducible refine Below.setCell ?_ (by first | omega | (simp <;> omega)) _ | with_reducible refine balloc ?_ _ | with_reducible refine Below.drew ?_ | with_reducible refine bstep ?_ (by with_reducible assumption))))) ?_
  rintro e w1 ⟨u, rfl, hu, hb1⟩
  clear hu
  generalize vaFs l = r at *
  go_wp2
  go_ret
  exact ⟨rfl, (by repeat (first | with_reducible exact Below.refl _ _ | with_reducible assumption | with_reducible refine Below.setCell ?_ (by first | omega | (simp <;> omega)) _ | with_reducible refine balloc ?_ _ | with_reducible refine Below.drew ?_ | with_reducible refine bstep ?_ (by with_reducible assumption)))⟩

set_option maxRecDepth 100000 in
theorem Shown_no (v : Value) (l : List Fe) (p1 p2 : Int) (w : World) (h : Feas w v l) (hn : (vaFs l && okB p1 p2) = false) : Calls Tryz.prog 26 #[v, (.agg #[.int .i64 p1, .int .i64 p2])] w (Ret w (.tuple #[(.int .i64 0), (.int .i64 1)])) := by
  have H := Lib.hid h
  obtain ⟨⟨p, cap, rfl, hp⟩, hlen⟩ := h
  clear hp hlen
  have HN := Lib.hid hn
  clear hn
  cases hv : vaFs l
  all_goals
    have HV := Lib.hid hv
    clear hv
    go_enter Tryz.func26, Tryz.ntmps26
    go_wp2_with fail
    refine Calls.mono (shapesOf_c _ l _ (H.out.below (by repeat (first | with_reducible exact Below.refl _ _ | with_reducible assumption | with_reducible refine Below.setCell ?_ (by first | omega | (simp <;> omega)) _ | with_reducible refine balloc ?_ _ | with_reducible refine Below.drew ?_ | with_reducible refine bstep ?_ (by with_reducible assumption))))) ?_
    rintro e w1 ⟨u, rfl, hu, hb1⟩
    rw [HV.out] at hu ⊢
    obtain ⟨hc1, hf1⟩ := bcell hb1
    have g0 := fun o => hc1 w.heap.size o (by first | omega | (simp <;> omega))
    clear hc1 hf1
  · clear hu
    go_wp2
    go_ret2
    exact ⟨rfl, (by repeat (first | with_reducible exact Below.refl _ _ | with_reducible assumption | with_reducible refine Below.setCell ?_ (by first | omega | (simp <;> omega)) _ | with_reducible refine balloc ?_ _ | with_reducible refine Below.drew ?_ | with_reducible refine bstep ?_ (by with_reducible assumption)))⟩
  · clear hu
    have hp : okB p1 p2 = false := by have := HN.out; rw [HV.out] at this; exact this
    go_wp2_with fail
    refine Calls.mono (valid_c _ _ _) ?_
    rintro e w2 ⟨rfl, hb2⟩
    rw [hp]
    go_wp2
    go_ret2
    exact ⟨rfl, (by repeat (first | with_reducible exact Below.refl _ _ | with_reducible assumption | with_reducible refine Below.setCell ?_ (by first | omega | (simp <;> omega)) _ | with_reducible refine balloc ?_ _ | with_reducible refine Below.drew ?_ | with_reducible refine bstep ?_ (by with_reducible assumption)))⟩

set_option maxRecDepth 100000 in
set_option maxHeartbeats 3200000 in
theorem Shown_ok (v : Value) (l : List Fe) (p1 p2 : Int) (w : World) (h : Feas w v l) (hv : vaFs l = true) (hp : ok p1 p2) : Calls Tryz.prog 26 #[v, (.agg #[.int .i64 p1, .int .i64 p2])] w (Ret w (.tuple #[(.int .i64 (shK l p1 p2 l.length)), (.int .i64 0)])) := by
  have H := Lib.hid h
  obtain ⟨⟨p, cap, rfl, hpp⟩, hlen⟩ := h
  have HP := Lib.hid hpp
  clear hpp
  have h300 : l.length ≤ 300 := by unfold vaFs at hv; rw [Bool.and_eq_true, decide_eq_true_eq] at hv; exact hv.1
  have HV := Lib.hid hv
  have vp : okB p1 p2 = true := okB_iff.2 hp
  have VP := Lib.hid vp
  clear hv vp
  go_enter Tryz.func26, Tryz.ntmps26
  go_wp2_with fail
  refine Calls.mono (shapesOf_c _ l _ (H.out.below (by repeat (first | with_reducible exact Below.refl _ _ | with_reducible assumption | with_reducible refine Below.setCell ?_ (by first | omega | (simp <;> omega)) _ | with_reducible refine balloc ?_ _ | with_reducible refine Below.drew ?_ | with_reducible refine bstep ?_ (by with_reducible assumption))))) ?_
  rintro e w1 ⟨u, rfl, hu, hb1⟩
  obtain ⟨g, rfl, hg1, hg2, hsr⟩ := hu HV.out
  rw [HV.out]
  obtain ⟨hc1, hf1⟩ := bcell hb1
  have hs1 := hb1.size
  (try simp at hs1)
  have g0 := fun o => hc1 w.heap.size o (by first | omega | (simp <;> omega))
  have k0 : w1.cell? ⟨w.heap.size, 0, none⟩ = some (.int .i64 p1) := by rw [g0]; go_simp
  have k1 : w1.cell? ⟨w.heap.size, 1, none⟩ = some (.int .i64 p2) := by rw [g0]; go_simp
  have hw1 : Below w.heap.size w w1 := (by repeat (first | with_reducible exact Below.refl _ _ | with_reducible assumption | with_reducible refine Below.setCell ?_ (by first | omega | (simp <;> omega)) _ | with_reducible refine balloc ?_ _ | with_reducible refine Below.drew ?_ | with_reducible refine bstep ?_ (by with_reducible assumption)))
  have HW1 := Lib.hid hw1
  have HSR := Lib.hid hsr
  have HB1 := Lib.hid hb1
  clear hc1 hf1 hsr hw1 hb1 g0 hu
  go_wp2_with fail
  refine Calls.mono (valid_c _ _ _) ?_
  rintro e w2 ⟨rfl, hb2⟩
  rw [VP.out]
  have k0 := cell_later hb2 k0
  have k1 := cell_later hb2 k1
  have hz0 : w.heap.size < w2.heap.size := World.block_lt_of_cell? _ _ k0
  have hw2 : Below w.heap.size w w2 := HW1.out.trans (hb2.mono (by omega))
  have HW2 := Lib.hid hw2
  have HB2 := Lib.hid hb2
  have hg3 : g < w2.heap.size := by have := hb2.size; omega
  have K0 := Lib.hid k0
  have K1 := Lib.hid k1
  clear hb2 hw2 k0 k1
  go_wp2
  go_loopw [8, 25] (fun d i wr => ∃ k : Nat, i = (.int .i64 k) ∧ k ≤ l.length ∧ d = (.int .i64 (shK l p1 p2 k)) ∧ Below w2.heap.size w2 wr) (fun _ i _ => l.length - (intOf i).toNat)
  case atStart => exact ⟨0, rfl, by omega, rfl, Below.refl _ _⟩
  case round =>
    obtain ⟨k, rfl, hk, rfl, hbel⟩ := hrel
    by_cases hlt : k < l.length
    · obtain ⟨b, off, rfl, hr⟩ := HP.out (by omega)
      have hrw := (hr k hlt).below (HW2.out.trans (hbel.mono (by omega)))
      obtain ⟨⟨pa, ps, ca, cs, c0, c1, c2, c3, c4, c5, c6, c7, c8, ha, hs⟩, hx, hy⟩ := hrw
      clear c0 c1 c2 c3 c4 c5 c7 c8 ha hs hx hy hr
      obtain ⟨u, hu, hsv⟩ := HSR.out k hlt
      have hu2 := cell_later hbel (cell_later HB2.out hu)
      obtain ⟨T, x, K, rfl, hK, M, C⟩ := cov_any hsv
      have q0 := cell_later hbel K0.out
      have q1 := cell_later hbel K1.out
      have hbb : b < wr.heap.size := World.block_lt_of_cell? _ _ c6
      have hwr := bstep (bstep HB1.out HB2.out) hbel
      have CC := Lib.hid (C wr p1 p2 hp hwr)
      have HX := Lib.hid hbel
      clear hu hsv C hbel hwr
      have hsh : shK l p1 p2 (k + 1) = if coS (shF (gf l k)) p1 p2 = true then min (shK l p1 p2 k) (gf l k).de else shK l p1 p2 k := rfl
      generalize shK l p1 p2 k = d at *
      generalize (gf l k).de = d2 at *
      generalize coS (shF (gf l k)) p1 p2 = r at *
      have HSH := Lib.hid hsh
      clear hsh
      rcases hK with rfl | rfl | rfl
      all_goals
       cases r
       · go_wp2_with fail
         refine Calls.mono CC.out ?_
         rintro e w3 ⟨rfl, hb3⟩
         clear M
         have hb4 := HX.out.trans (hb3.mono (by have := HX.out.size; omega))
         have HB4 := Lib.hid hb4
         clear hb3 hb4
         go_wp2
         go_roundw
         case rel => exact ⟨k + 1, by go_num, by omega, by rw [HSH.out]; rfl, HB4.out⟩
         case measure => simp [intOf]; omega
       · go_wp2_with fail
         refine Calls.mono CC.out ?_
         rintro e w3 ⟨rfl, hb3⟩
         clear M
         have c6 := cell_later hb3 c6
         have hb4 := HX.out.trans (hb3.mono (by have := HX.out.size; omega))
         have HB4 := Lib.hid hb4
         clear hb3 hb4
         go_wp2
         all_goals
           go_roundw
           case rel => exact ⟨k + 1, by go_num, by omega, by rw [HSH.out]; (first | (simp; done) | (simp; omega)), HB4.out⟩
           case measure => simp [intOf]; omega
    · obtain rfl : k = l.length := by omega
      have HX := Lib.hid hbel
      clear hbel
      go_wp2
      go_ret2
      have hb4 := HX.out
      exact ⟨rfl, HW2.out.trans (hb4.mono (by omega))⟩

end Go.Proofs.YtfgajejhjbfhjaaGreat.Fe
end
