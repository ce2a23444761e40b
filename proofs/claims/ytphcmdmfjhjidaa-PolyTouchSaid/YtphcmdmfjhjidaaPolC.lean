/- PolC: the loops of package poly that range over no function. -/
import Derived.Test.YtphcmdmfjhjidaaPolB
import Derived.Test.YtphcmdmfjhjidaaRows
import Derived.WalkKit
import Derived.WalkSpells
import Derived.WalkLawsBesides
import Derived.Lib.Hide
import Derived.Deep.QuietTactic
import Derived.BigQuiet
import Derived.RegionTactic
import Derived.ChangeAlike
import Derived.BigRegion
import Derived.Deep.RegionHeld3
import Derived.Deep.RegionWith
import Derived.Outline
import Derived.IntWalk
import Derived.LoopTactic
namespace Go.Proofs.Ytphcmdmfjhjidaa.Po
open Go.RowKit
set_option linter.unusedSimpArgs false
set_option linter.unusedVariables false

theorem ret_bv {w w' : World} {a b : Bool} (h : a = b) (hb : Below w.heap.size w w') : Ret w (.bool b) (.returned (.bool a)) w' := ⟨by rw [h], hb⟩
theorem okL_take {l : List Pt} {k : Nat} (hk : k < l.length) : okL (l.take (k + 1)) = (okL (l.take k) && okB (gp l k).1 (gp l k).2) := by
  unfold okL gp
  rw [List.take_succ_eq_append_getElem hk, List.all_append, List.getD_eq_getElem?_getD, List.getElem?_eq_getElem hk]
  simp

set_option maxRecDepth 100000 in
set_option maxHeartbeats 1600000 in
theorem allOk_c (b off cap : Nat) (l : List Pt) (w : World) (h24 : l.length ≤ 200) (h0l : 0 < l.length) (hr : Row w b off l) : Calls Try.prog 34 #[.slice (some ⟨b, off, none⟩) l.length cap] w (Ret w (.bool (okL l))) := by
  have hbl := hr.lt h0l
  go_enter Try.func34, Try.ntmps34
  go_wp2
  go_loopw [7] (fun i wr => ∃ k : Nat, i = (.int .i64 k) ∧ k ≤ l.length ∧ okL (l.take k) = true ∧ Below w.heap.size w wr) (fun i _ => l.length - (intOf i).toNat)
  case atStart => exact ⟨0, rfl, by omega, by simp [okL], Below.refl _ _⟩
  case round =>
    obtain ⟨k, rfl, hk, hall, hbel⟩ := hrel
    by_cases hlt : k < l.length
    · have hrr := hr.below hbl hbel
      obtain ⟨c1, c2⟩ := hrr k hlt
      have ht := okL_take hlt
      rw [hall] at ht
      have HA := Lib.hid hall
      have HR := Lib.hid hr
      have HQ := Lib.hid hrr
      have HT := Lib.hid ht
      clear hall hr hrr ht
      cases hv : okB (gp l k).1 (gp l k).2
      · go_wp2_with fail
        refine Calls.mono (valid_c _ _ _) ?_
        rintro e w1 ⟨rfl, hb1⟩
        have hb2 : Below w.heap.size w w1 := (by repeat (first | exact Below.refl _ _ | assumption | refine bstep ?_ (by assumption) | refine Below.drew ?_ | refine balloc ?_ _ | refine Below.setCell ?_ (by first | omega | (simp <;> omega)) _))
        go_wp2
        go_ret
        refine ret_bv ?_ hb2
        have : okL l = false := by
          rw [Bool.eq_false_iff]
          intro h
          have := okB_iff.2 (okL_gp h k)
          rw [hv] at this
          cases this
        rw [this]
      · go_wp2_with fail
        refine Calls.mono (valid_c _ _ _) ?_
        rintro e w1 ⟨rfl, hb1⟩
        have hb2 : Below w.heap.size w w1 := (by repeat (first | exact Below.refl _ _ | assumption | refine bstep ?_ (by assumption) | refine Below.drew ?_ | refine balloc ?_ _ | refine Below.setCell ?_ (by first | omega | (simp <;> omega)) _))
        go_wp2
        go_roundw
        case rel => exact ⟨k + 1, by go_num, by omega, by rw [HT.out, hv]; rfl, hb2⟩
        case measure => simp [intOf]; omega
    · obtain rfl : k = l.length := by omega
      rw [List.take_length] at hall
      go_wp2
      go_ret
      exact ret_bv hall.symm hbel

def bendB (l : List Pt) : Bool := decide (∀ i, i < l.length → tu (pv l i) (gp l i) (nx l i) ≠ 0)
theorem prod_eq (p : Pt) : (p.1, p.2) = p := rfl

set_option maxRecDepth 100000 in
set_option maxHeartbeats 1600000 in
theorem bends_c (b off cap : Nat) (l : List Pt) (w : World) (hl : okL l = true) (h24 : l.length ≤ 24) (h0l : 0 < l.length) (hr : Row w b off l) : Calls Try.prog 40 #[.slice (some ⟨b, off, none⟩) l.length cap] w (Ret w (.bool (bendB l))) := by
  have hbl := hr.lt h0l
  go_enter Try.func40, Try.ntmps40
  go_wp2
  go_loopw [9] (fun i wr => ∃ k : Nat, i = (.int .i64 k) ∧ k ≤ l.length ∧ (∀ i, i < k → tu (pv l i) (gp l i) (nx l i) ≠ 0) ∧ Below w.heap.size w wr) (fun i _ => l.length - (intOf i).toNat)
  case atStart => exact ⟨0, rfl, by omega, fun i hi => by omega, Below.refl _ _⟩
  case round =>
    obtain ⟨k, rfl, hk, hall, hbel⟩ := hrel
    have HA := Lib.hid hall
    clear hall
    by_cases hlt : k < l.length
    · have hrr := hr.below hbl hbel
      obtain ⟨c1, c2⟩ := hrr k hlt
      have HR := Lib.hid hr
      have HQ := Lib.hid hrr
      clear hr hrr
      have o1 := okL_gp hl k
      have o2 := okL_pv hl k
      have o3 := okL_nx hl k
      unfold okP at o1 o2 o3
      go_wp2_with fail
      refine Calls.mono (neigh_c b off cap k l _ hlt h24 (HR.out.below hbl (by repeat (first | exact Below.refl _ _ | assumption | refine bstep ?_ (by assumption) | refine Below.drew ?_ | refine balloc ?_ _ | refine Below.setCell ?_ (by first | omega | (simp <;> omega)) _)))) ?_
      rintro e w1 ⟨rfl, hb1⟩
      obtain ⟨hc1, hf1⟩ := bcell hb1
      have hs1 := hb1.size
      (try simp at hs1)
      have g1 := fun o => hc1 wr.heap.size o (by first | omega | (simp <;> omega))
      have hB1 : Below w.heap.size w w1 := (by repeat (first | exact Below.refl _ _ | assumption | refine bstep ?_ (by assumption) | refine Below.drew ?_ | refine balloc ?_ _ | refine Below.setCell ?_ (by first | omega | (simp <;> omega)) _))
      have k0 : w1.cell? ⟨wr.heap.size, 0, none⟩ = some (.int .i64 ((gp l k).1)) := by rw [g1]; go_simp
      have k1 : w1.cell? ⟨wr.heap.size, 1, none⟩ = some (.int .i64 ((gp l k).2)) := by rw [g1]; go_simp
      have z1 : wr.heap.size < w1.heap.size := by omega
      clear g1
      have hs0 := hbel.size
      clear hc1 hf1 hb1
      by_cases ht : turn (pv l k).1 (pv l k).2 (gp l k).1 (gp l k).2 (nx l k).1 (nx l k).2 = 0
      · have ht' : (turn (pv l k).1 (pv l k).2 (gp l k).1 (gp l k).2 (nx l k).1 (nx l k).2 == 0) = true := by simpa using ht
        have ht2 := Lib.hid ht
        clear ht
        go_wp2_with fail
        refine Calls.mono (pturn_c _ _ _ _ _ _ _ (by assumption) (by assumption) (by assumption)) ?_
        rintro e w2 ⟨rfl, hb2⟩
        have hB2 : Below w.heap.size w w2 := (by repeat (first | exact Below.refl _ _ | assumption | refine bstep ?_ (by assumption) | refine Below.drew ?_ | refine balloc ?_ _ | refine Below.setCell ?_ (by first | omega | (simp <;> omega)) _))
        go_wp2
        go_ret
        refine ret_bv ?_ hB2
        exact (decide_eq_false (fun h => h k hlt ht2.out)).symm
      · have ht' : (turn (pv l k).1 (pv l k).2 (gp l k).1 (gp l k).2 (nx l k).1 (nx l k).2 == 0) = false := by simpa using ht
        have ht2 := Lib.hid ht
        clear ht
        go_wp2_with fail
        refine Calls.mono (pturn_c _ _ _ _ _ _ _ (by assumption) (by assumption) (by assumption)) ?_
        rintro e w2 ⟨rfl, hb2⟩
        have hB2 : Below w.heap.size w w2 := (by repeat (first | exact Below.refl _ _ | assumption | refine bstep ?_ (by assumption) | refine Below.drew ?_ | refine balloc ?_ _ | refine Below.setCell ?_ (by first | omega | (simp <;> omega)) _))
        go_wp2
        go_roundw
        case rel =>
          refine ⟨k + 1, by go_num, by omega, fun i hi => ?_, hB2⟩
          by_cases hik : i = k
          · subst hik; exact ht2.out
          · exact HA.out i (by omega)
        case measure => simp [intOf]; omega
    · obtain rfl : k = l.length := by omega
      go_wp2
      go_ret
      exact ret_bv (decide_eq_true HA.out).symm hbel


end Go.Proofs.Ytphcmdmfjhjidaa.Po
