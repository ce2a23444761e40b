/- PolC: the loops of package poly that range over no function. -/
import Derived.Test.YtfgajejhjbfhjaaGreatGf
import Derived.Test.YtfgajejhjbfhjaaGreatRows
import Derived.WalkKit
import Derived.WalkSpells
import Derived.WalkLawsBesides
import Derived.Lib.Hide
import Derived.Deep.QuietTactic
import Derived.BigQuiet
import Derived.RegionTactic
import Derived.ChangeAlike
import Derived.BigRegion
import Derived.Deep.RegionHeld3
import Derived.Deep.RegionWith
import Derived.Outline
import Derived.IntWalk
import Derived.LoopTactic
section
namespace Go.Proofs.YtfgajejhjbfhjaaGreat.Po
open Go.RowKit
set_option linter.unusedSimpArgs false
set_option linter.unusedVariables false

theorem ret_bv {w w' : World} {a b : Bool} (h : a = b) (hb : Below w.heap.size w w') : Ret w (.bool b) (.returned (.bool a)) w' := ⟨by rw [h], hb⟩
theorem okL_take {l : List Pt} {k : Nat} (hk : k < l.length) : okL (l.take (k + 1)) = (okL (l.take k) && okB (gp l k).1 (gp l k).2) := by
  unfold okL gp
  rw [List.take_succ_eq_append_getElem hk, List.all_append, List.getD_eq_getElem?_getD, List.getElem?_eq_getElem hk]
  simp

set_option maxRecDepth 100000 in
set_option maxHeartbeats 1600000 in
theorem allOk_c (b off cap : Nat) (l : List Pt) (w : World) (h24 : l.length ≤ 200) (h0l : 0 < l.length) (hr : Row w b off l) : Calls Tryz.prog 164 #[.slice (some ⟨b, off, none⟩) l.length cap] w (Ret w (.bool (okL l))) := by
  have hbl := hr.lt h0l
  go_enter Tryz.func164, Tryz.ntmps164
  go_wp2
  go_loopw [7] (fun i wr => ∃ k : Nat, i = (.int .i64 k) ∧ k ≤ l.length ∧ okL (l.take k) = true ∧ Below w.heap.size w wr) (fun i _ => l.length - (intOf i).toNat)
  case atStart => exact ⟨0, rfl, by omega, by simp [okL], Below.refl _ _⟩
  case round =>
    obtain ⟨k, rfl, hk, hall, hbel⟩ := hrel
    by_cases hlt : k < l.length
    · have hrr := hr.below hbl hbel
      obtain ⟨c1, c2⟩ := hrr k hlt
      have ht := okL_take hlt
      rw [hall] at ht
      have HA := Lib.hid hall
      have HR := Lib.hid hr
      have HQ := Lib.hid hrr
      have HT := Lib.hid ht
      clear hall hr hrr ht
      cases hv : okB (gp l k).1 (gp l k).2
      · go_wp2_with fail
        refine Calls.mono (valid_c _ _ _) ?_
        rintro e w1 ⟨rfl, hb1⟩
        have hb2 : Below w.heap.size w w1 := (by repeat (first | with_reducible exact Below.refl _ _ | with_reducible assumption | with_reducible refine Below.setCell ?_ (by first | omega | (simp <;> omega)) _ | with_reducible refine balloc ?_ _ | with_reducible refine Below.drew ?_ | with_reducible refine bstep ?_ (by with_reducible assumption)))
        go_wp2
        go_ret
        refine ret_bv ?_ hb2
        have : okL l = false := by
          rw [Bool.eq_false_iff]
          intro h
          have := okB_iff.2 (okL_gp h k)
          rw [hv] at this
          cases this
        rw [this]
      · go_wp2_with fail
        refine Calls.mono (valid_c _ _ _) ?_
        rintro e w1 ⟨rfl, hb1⟩
        have hb2 : Below w.heap.size w w1 := (by repeat (first | with_reducible exact Below.refl _ _ | with_reducible assumption | with_reducible refine Below.setCell ?_ (by first | omega | (simp <;> omega)) _ | with_reducible refine balloc ?_ _ | with_reducible refine Below.drew ?_ | with_reducible refine bstep ?_ (by with_reducible assumption)))
        go_wp2
        go_roundw
        case rel => exact ⟨k + 1, by go_num, by omega, by rw [HT.out, hv]; rfl, hb2⟩
        case measure => simp [intOf]; omega
    · obtain rfl : k = l.length := by omega
      rw [List.take_length] at hall
      go_wp2
      go_ret
      exact ret_bv hall.symm hbel

def bendB (l : List Pt) : Bool := decide (∀ i, i < l.length → tu (pv l i) (gp l i) (nx l i) ≠ 0)
theorem prod_eq (p : Pt) : (p.1, p.2) = p := rfl

set_option maxRecDepth 100000 in
set_option maxHeartbeats 1600000 in
theorem bends_c (b off cap : Nat) (l : List Pt) (w : World) (hl : okL l = true) (h24 : l.length ≤ 24) (h0l : 0 < l.length) (hr : Row w b off l) : Calls Tryz.prog 166 #[.slice (some ⟨b, off, none⟩) l.length cap] w (Ret w (.bool (bendB l))) := by
  have hbl := hr.lt h0l
  go_enter Tryz.func166, Tryz.ntmps166
  go_wp2
  go_loopw [9] (fun i wr => ∃ k : Nat, i = (.int .i64 k) ∧ k ≤ l.length ∧ (∀ i, i < k → tu (pv l i) (gp l i) (nx l i) ≠ 0) ∧ Below w.heap.size w wr) (fun i _ => l.length - (intOf i).toNat)
  case atStart => exact ⟨0, rfl, by omega, fun i hi => by omega, Below.refl _ _⟩
  case round =>
    obtain ⟨k, rfl, hk, hall, hbel⟩ := hrel
    have HA := Lib.hid hall
    clear hall
    by_cases hlt : k < l.length
    · have hrr := hr.below hbl hbel
      obtain ⟨c1, c2⟩ := hrr k hlt
      have HR := Lib.hid hr
      have HQ := Lib.hid hrr
      clear hr hrr
      have o1 := okL_gp hl k
      have o2 := okL_pv hl k
      have o3 := okL_nx hl k
      unfold okP at o1 o2 o3
      go_wp2_with fail
      refine Calls.mono (neigh_c b off cap k l _ hlt h24 (HR.out.below hbl (by repeat (first | with_reducible exact Below.refl _ _ | with_reducible assumption | with_reducible refine Below.setCell ?_ (by first | omega | (simp <;> omega)) _ | with_reducible refine balloc ?_ _ | with_reducible refine Below.drew ?_ | with_reducible refine bstep ?_ (by with_reducible assumption))))) ?_
      rintro e w1 ⟨rfl, hb1⟩
      obtain ⟨hc1, hf1⟩ := bcell hb1
      have hs1 := hb1.size
      (try simp at hs1)
      have g1 := fun o => hc1 wr.heap.size o (by first | omega | (simp <;> omega))
      have hB1 : Below w.heap.size w w1 := (by repeat (first | with_reducible exact Below.refl _ _ | with_reducible assumption | with_reducible refine Below.setCell ?_ (by first | omega | (simp <;> omega)) _ | with_reducible refine balloc ?_ _ | with_reducible refine Below.drew ?_ | with_reducible refine bstep ?_ (by with_reducible assumption)))
      have k0 : w1.cell? ⟨wr.heap.size, 0, none⟩ = some (.int .i64 ((gp l k).1)) := by rw [g1]; go_simp
      have k1 : w1.cell? ⟨wr.heap.size, 1, none⟩ = some (.int .i64 ((gp l k).2)) := by rw [g1]; go_simp
      have z1 : wr.heap.size < w1.heap.size := by omega
      clear g1
      have hs0 := hbel.size
      clear hc1 hf1 hb1
      by_cases ht : turn (pv l k).1 (pv l k).2 (gp l k).1 (gp l k).2 (nx l k).1 (nx l k).2 = 0
      · have ht' : (turn (pv l k).1 (pv l k).2 (gp l k).1 (gp l k).2 (nx l k).1 (nx l k).2 == 0) = true := by simpa using ht
        have ht2 := Lib.hid ht
        clear ht
        go_wp2_with fail
        refine Calls.mono (pturn_c _ _ _ _ _ _ _ (by assumption) (by assumption) (by assumption)) ?_
        rintro e w2 ⟨rfl, hb2⟩
        have hB2 : Below w.heap.size w w2 := (by repeat (first | with_reducible exact Below.refl _ _ | with_reducible assumption | with_reducible refine Below.setCell ?_ (by first | omega | (simp <;> omega)) _ | with_reducible refine balloc ?_ _ | with_reducible refine Below.drew ?_ | with_reducible refine bstep ?_ (by with_reducible assumption)))
        go_wp2
        go_ret
        refine ret_bv ?_ hB2
        exact (decide_eq_false (fun h => h k hlt ht2.out)).symm
      · have ht' : (turn (pv l k).1 (pv l k).2 (gp l k).1 (gp l k).2 (nx l k).1 (nx l k).2 == 0) = false := by simpa using ht
        have ht2 := Lib.hid ht
        clear ht
        go_wp2_with fail
        refine Calls.mono (pturn_c _ _ _ _ _ _ _ (by assumption) (by assumption) (by assumption)) ?_
        rintro e w2 ⟨rfl, hb2⟩
        have hB2 : Below w.heap.size w w2 := (by repeat (first | with_reducible exact Below.refl _ _ | with_reducible assumption | with_reducible refine Below.setCell ?_ (by first | omega | (simp <;> omega)) _ | with_reducible refine balloc ?_ _ | with_reducible refine Below.drew ?_ | with_reducible refine bstep ?_ (by with_reducible assumption)))
        go_wp2
        go_roundw
        case rel =>
          refine ⟨k + 1, by go_num, by omega, fun i hi => ?_, hB2⟩
          by_cases hik : i = k
          · subst hik; exact ht2.out
          · exact HA.out i (by omega)
        case measure => simp [intOf]; omega
    · obtain rfl : k = l.length := by omega
      go_wp2
      go_ret
      exact ret_bv (decide_eq_true HA.out).symm hbel


end Go.Proofs.YtfgajejhjbfhjaaGreat.Po
end

section
namespace Go.Proofs.YtfgajejhjbfhjaaGreat.Po
open Go.RowKit
set_option linter.unusedSimpArgs false
set_option linter.unusedVariables false

def simpB (l : List Pt) : Bool := decide (∀ i, i < l.length → ∀ j, j < l.length → i + 2 ≤ j → (j + 1) % l.length ≠ i → meP (gp l i) (gp l (i + 1)) (gp l j) (nx l j) = false)

set_option maxRecDepth 100000 in
set_option maxHeartbeats 3200000 in
theorem simple_c (b off cap : Nat) (l : List Pt) (w : World) (hl : okL l = true) (h24 : l.length ≤ 24) (h0l : 0 < l.length) (hr : Row w b off l) : Calls Tryz.prog 167 #[.slice (some ⟨b, off, none⟩) l.length cap] w (Ret w (.bool (simpB l))) := by
  have hbl := hr.lt h0l
  have z2 : l ≠ [] := by intro e; subst e; simp at h0l
  go_enter Tryz.func167, Tryz.ntmps167
  go_wp2
  go_loopw [8] (fun i wr => ∃ k : Nat, i = (.int .i64 k) ∧ k ≤ l.length ∧ (∀ i, i < k → ∀ j, j < l.length → i + 2 ≤ j → (j + 1) % l.length ≠ i → meP (gp l i) (gp l (i + 1)) (gp l j) (nx l j) = false) ∧ Below w.heap.size w wr) (fun i _ => l.length - (intOf i).toNat)
  case atStart => exact ⟨0, rfl, by omega, fun i hi => by omega, Below.refl _ _⟩
  case round =>
    obtain ⟨k, rfl, hk, hall, hbel⟩ := hrel
    have HA := Lib.hid hall
    have HR := Lib.hid hr
    clear hall hr
    by_cases hlt : k < l.length
    · obtain ⟨wo, rfl⟩ : ∃ wo : World, wo = wr := ⟨_, rfl⟩
      go_wp2
      go_loopw [4] (fun j wi => ∃ m : Nat, j = (.int .i64 m) ∧ k + 2 ≤ m ∧ m ≤ l.length + 2 ∧ (∀ j, j < m → j < l.length → k + 2 ≤ j → (j + 1) % l.length ≠ k → meP (gp l k) (gp l (k + 1)) (gp l j) (nx l j) = false) ∧ Below w.heap.size w wi) (fun j _ => l.length + 2 - (intOf j).toNat)
      case atStart => exact ⟨k + 2, by go_num, by omega, by omega, fun j h1 h2 h3 => by omega, hbel⟩
      case round =>
        obtain ⟨m, rfl, hm1, hm2, hin, hbi⟩ := hrel
        have HI := Lib.hid hin
        clear hin
        by_cases hml : m < l.length
        · have hrr := HR.out.below hbl hbi
          obtain ⟨c1, c2⟩ := hrr k hlt
          obtain ⟨c3, c4⟩ := hrr (k + 1) (by omega)
          obtain ⟨c5, c6⟩ := hrr m hml
          have hjl : (m + 1) % l.length < l.length := Nat.mod_lt _ h0l
          obtain ⟨c7, c8⟩ := hrr _ hjl
          have HQ := Lib.hid hrr
          clear hrr
          have o1 := okL_gp hl k
          have o2 := okL_gp hl (k + 1)
          have o3 := okL_gp hl m
          have o4 := okL_gp hl ((m + 1) % l.length)
          unfold okP at o1 o2 o3 o4
          have x4 : IntKind.i64.wrap ((m : Int) + 1) = (m : Int) + 1 := IntWalk.i64_in _ (by omega)
          have x6 : IntKind.i64.wrap ((k : Int) + 1) = (k : Int) + 1 := IntWalk.i64_in _ (by omega)
          have x5 : Int.tmod ((m : Int) + 1) (l.length : Int) = (((m + 1) % l.length : Nat) : Int) := by
            rw [Int.tmod_eq_emod_of_nonneg (by omega)]; simp
          have hnx : nx l m = gp l ((m + 1) % l.length) := rfl
          have zb : b < wr.heap.size := by have := hbi.size; omega
          have y1 : (0 : Int) ≤ (k : Int) + 1 := by omega
          have y2 : (k : Int) + 1 < (l.length : Int) := by omega
          generalize hjn : (m + 1) % l.length = jn at *
          have HN := Lib.hid hnx
          have HJ := Lib.hid hjn
          clear hnx hjn
          by_cases hg : jn = k
          · have g3 : ((jn : Int) != (k : Int)) = false := by rw [hg]; simp
            have hgh := Lib.hid hg
            clear hg c1 c2 c3 c4 c5 c6 c7 c8
            go_wp2_with fail
            refine wp_region_held_drew (S := fun w' => True) (by kernel_rfl) (by first | (go_keep; done) | ((repeat' apply And.intro) <;> go_simp)) (fun hHeld => ?_)
            refine wpAnyH_take (i := 0) (oi := ⟨some 24, _, _, _, _, _⟩) (v := ?_) rfl (by kernel_rfl) (by kernel_rfl) (by kernel_rfl) (fun _ _ _ h => h) (Or.inl ⟨by rfl, ?_⟩) (by assumption) ?_
            rotate_left
            · intro w hSw; (try dsimp only at hSw); go_simp; try with_reducible rfl
            try simp only [Act.put, List.setIfInBounds_toArray, List.set_cons_zero, List.set_cons_succ]
            refine wpAnyH_take (i := 1) (oi := ⟨some 25, _, _, _, _, _⟩) (v := ?_) rfl (by kernel_rfl) (by kernel_rfl) (by kernel_rfl) (fun _ _ _ h => h) (Or.inl ⟨by rfl, ?_⟩) (by assumption) ?_
            rotate_left
            · intro w hSw; (try dsimp only at hSw); go_simp; try with_reducible rfl
            try simp only [Act.put, List.setIfInBounds_toArray, List.set_cons_zero, List.set_cons_succ]
            refine wpAnyH_take (i := 2) (oi := ⟨some 26, _, _, _, _, _⟩) (v := ?_) rfl (by kernel_rfl) (by kernel_rfl) (by kernel_rfl) (fun _ _ _ h => h) (Or.inl ⟨by rfl, ?_⟩) (by assumption) ?_
            rotate_left
            · intro w hSw; (try dsimp only at hSw); go_simp; try with_reducible rfl
            try simp only [Act.put, List.setIfInBounds_toArray, List.set_cons_zero, List.set_cons_succ]
            refine wpAnyH_take (i := 3) (oi := ⟨some 27, _, _, _, _, _⟩) (v := ?_) rfl (by kernel_rfl) (by kernel_rfl) (by kernel_rfl) (fun _ _ _ h => h) (Or.inl ⟨by rfl, ?_⟩) (by assumption) ?_
            rotate_left
            · intro w hSw; (try dsimp only at hSw); go_simp; try with_reducible rfl
            try simp only [Act.put, List.setIfInBounds_toArray, List.set_cons_zero, List.set_cons_succ]
            refine wpAnyH_take (i := 4) (oi := ⟨some 28, _, _, _, _, _⟩) (v := undef) rfl (by kernel_rfl) (by kernel_rfl) (by kernel_rfl) (fun _ _ _ h => h) (Or.inr ⟨by rfl, rfl⟩) (by assumption) ?_
            try simp only [Act.put, List.setIfInBounds_toArray, List.set_cons_zero, List.set_cons_succ]
            refine wpAnyH_take (i := 5) (oi := ⟨some 29, _, _, _, _, _⟩) (v := undef) rfl (by kernel_rfl) (by kernel_rfl) (by kernel_rfl) (fun _ _ _ h => h) (Or.inr ⟨by rfl, rfl⟩) (by assumption) ?_
            try simp only [Act.put, List.setIfInBounds_toArray, List.set_cons_zero, List.set_cons_succ]
            refine wpAnyH_take (i := 6) (oi := ⟨some 30, _, _, _, _, _⟩) (v := undef) rfl (by kernel_rfl) (by kernel_rfl) (by kernel_rfl) (fun _ _ _ h => h) (Or.inr ⟨by rfl, rfl⟩) (by assumption) ?_
            try simp only [Act.put, List.setIfInBounds_toArray, List.set_cons_zero, List.set_cons_succ]
            refine wpAnyH_take (i := 7) (oi := ⟨some 31, _, _, _, _, _⟩) (v := undef) rfl (by kernel_rfl) (by kernel_rfl) (by kernel_rfl) (fun _ _ _ h => h) (Or.inr ⟨by rfl, rfl⟩) (by assumption) ?_
            try simp only [Act.put, List.setIfInBounds_toArray, List.set_cons_zero, List.set_cons_succ]
            refine wpAnyH_take (i := 8) (oi := ⟨some 32, _, _, _, _, _⟩) (v := undef) rfl (by kernel_rfl) (by kernel_rfl) (by kernel_rfl) (fun _ _ _ h => h) (Or.inr ⟨by rfl, rfl⟩) (by assumption) ?_
            try simp only [Act.put, List.setIfInBounds_toArray, List.set_cons_zero, List.set_cons_succ]
            refine wpAnyH_take (i := 9) (oi := ⟨some 33, _, _, _, _, _⟩) (v := undef) rfl (by kernel_rfl) (by kernel_rfl) (by kernel_rfl) (fun _ _ _ h => h) (Or.inr ⟨by rfl, rfl⟩) (by assumption) ?_
            try simp only [Act.put, List.setIfInBounds_toArray, List.set_cons_zero, List.set_cons_succ]
            refine wpAnyH_take (i := 10) (oi := ⟨some 34, _, _, _, _, _⟩) (v := undef) rfl (by kernel_rfl) (by kernel_rfl) (by kernel_rfl) (fun _ _ _ h => h) (Or.inr ⟨by rfl, rfl⟩) (by assumption) ?_
            try simp only [Act.put, List.setIfInBounds_toArray, List.set_cons_zero, List.set_cons_succ]
            refine wpAnyH_take (i := 11) (oi := ⟨some 35, _, _, _, _, _⟩) (v := undef) rfl (by kernel_rfl) (by kernel_rfl) (by kernel_rfl) (fun _ _ _ h => h) (Or.inr ⟨by rfl, rfl⟩) (by assumption) ?_
            try simp only [Act.put, List.setIfInBounds_toArray, List.set_cons_zero, List.set_cons_succ]
            refine wpAnyH_take (i := 12) (oi := ⟨some 36, _, _, _, _, _⟩) (v := undef) rfl (by kernel_rfl) (by kernel_rfl) (by kernel_rfl) (fun _ _ _ h => h) (Or.inr ⟨by rfl, rfl⟩) (by assumption) ?_
            try simp only [Act.put, List.setIfInBounds_toArray, List.set_cons_zero, List.set_cons_succ]
            refine wpAnyH_take (i := 13) (oi := ⟨some 37, _, _, _, _, _⟩) (v := undef) rfl (by kernel_rfl) (by kernel_rfl) (by kernel_rfl) (fun _ _ _ h => h) (Or.inr ⟨by rfl, rfl⟩) (by assumption) ?_
            try simp only [Act.put, List.setIfInBounds_toArray, List.set_cons_zero, List.set_cons_succ]
            refine wpAnyH_take (i := 14) (oi := ⟨some 38, _, _, _, _, _⟩) (v := undef) rfl (by kernel_rfl) (by kernel_rfl) (by kernel_rfl) (fun _ _ _ h => h) (Or.inr ⟨by rfl, rfl⟩) (by assumption) ?_
            try simp only [Act.put, List.setIfInBounds_toArray, List.set_cons_zero, List.set_cons_succ]
            refine wpAnyH_take (i := 15) (oi := ⟨some 39, _, _, _, _, _⟩) (v := undef) rfl (by kernel_rfl) (by kernel_rfl) (by kernel_rfl) (fun _ _ _ h => h) (Or.inr ⟨by rfl, rfl⟩) (by assumption) ?_
            try simp only [Act.put, List.setIfInBounds_toArray, List.set_cons_zero, List.set_cons_succ]
            refine wpAnyH_take (i := 16) (oi := ⟨some 40, _, _, _, _, _⟩) (v := undef) rfl (by kernel_rfl) (by kernel_rfl) (by kernel_rfl) (fun _ _ _ h => h) (Or.inr ⟨by rfl, rfl⟩) (by assumption) ?_
            try simp only [Act.put, List.setIfInBounds_toArray, List.set_cons_zero, List.set_cons_succ]
            refine wpAnyH_take (i := 17) (oi := ⟨some 41, _, _, _, _, _⟩) (v := undef) rfl (by kernel_rfl) (by kernel_rfl) (by kernel_rfl) (fun _ _ _ h => h) (Or.inr ⟨by rfl, rfl⟩) (by assumption) ?_
            try simp only [Act.put, List.setIfInBounds_toArray, List.set_cons_zero, List.set_cons_succ]
            refine wpAnyH_take (i := 18) (oi := ⟨some 42, _, _, _, _, _⟩) (v := undef) rfl (by kernel_rfl) (by kernel_rfl) (by kernel_rfl) (fun _ _ _ h => h) (Or.inr ⟨by rfl, rfl⟩) (by assumption) ?_
            try simp only [Act.put, List.setIfInBounds_toArray, List.set_cons_zero, List.set_cons_succ]
            refine wpAnyH_take (i := 19) (oi := ⟨some 43, _, _, _, _, _⟩) (v := undef) rfl (by kernel_rfl) (by kernel_rfl) (by kernel_rfl) (fun _ _ _ h => h) (Or.inr ⟨by rfl, rfl⟩) (by assumption) ?_
            try simp only [Act.put, List.setIfInBounds_toArray, List.set_cons_zero, List.set_cons_succ]
            refine wpAnyH_take (i := 20) (oi := ⟨some 44, _, _, _, _, _⟩) (v := undef) rfl (by kernel_rfl) (by kernel_rfl) (by kernel_rfl) (fun _ _ _ h => h) (Or.inr ⟨by rfl, rfl⟩) (by assumption) ?_
            try simp only [Act.put, List.setIfInBounds_toArray, List.set_cons_zero, List.set_cons_succ]
            refine wpAnyH_take (i := 21) (oi := ⟨some 45, _, _, _, _, _⟩) (v := undef) rfl (by kernel_rfl) (by kernel_rfl) (by kernel_rfl) (fun _ _ _ h => h) (Or.inr ⟨by rfl, rfl⟩) (by assumption) ?_
            try simp only [Act.put, List.setIfInBounds_toArray, List.set_cons_zero, List.set_cons_succ]
            refine wpAnyH_take (i := 22) (oi := ⟨some 46, _, _, _, _, _⟩) (v := ?_) rfl (by kernel_rfl) (by kernel_rfl) (by kernel_rfl) (fun _ _ _ h => h) (Or.inl ⟨by rfl, ?_⟩) (by assumption) ?_
            rotate_left
            · intro w hSw; (try dsimp only at hSw); go_simp; try with_reducible rfl
            try simp only [Act.put, List.setIfInBounds_toArray, List.set_cons_zero, List.set_cons_succ]
            refine wpAnyH_done (by kernel_rfl) ?_ _
            go_wp2
            go_roundw
            case rel =>
              refine ⟨m + 1, by go_num, by omega, by omega, fun j h1 h2 h3 h4 => ?_, (by repeat (first | with_reducible exact Below.refl _ _ | with_reducible assumption | with_reducible refine Below.setCell ?_ (by first | omega | (simp <;> omega)) _ | with_reducible refine balloc ?_ _ | with_reducible refine Below.drew ?_ | with_reducible refine bstep ?_ (by with_reducible assumption)))⟩
              by_cases hjm : j = m
              · subst hjm; rw [HJ.out] at h4; exact absurd hgh.out h4
              · exact HI.out j (by omega) h2 h3 h4
            case measure => simp [intOf]; omega
          · have g3 : ((jn : Int) != (k : Int)) = true := by simp; omega
            have hgh := Lib.hid hg
            go_wp2_with fail
            refine wp_region_held_drew (S := fun w' => w'.cell? ⟨b, off + k * 2, none⟩ = some (.int .i64 ((gp l k).1)) ∧ w'.cell? ⟨b, off + k * 2 + 1, none⟩ = some (.int .i64 ((gp l k).2)) ∧ w'.cell? ⟨b, off + (k + 1) * 2, none⟩ = some (.int .i64 ((gp l (k + 1)).1)) ∧ w'.cell? ⟨b, off + (k + 1) * 2 + 1, none⟩ = some (.int .i64 ((gp l (k + 1)).2)) ∧ w'.cell? ⟨b, off + m * 2, none⟩ = some (.int .i64 ((gp l m).1)) ∧ w'.cell? ⟨b, off + m * 2 + 1, none⟩ = some (.int .i64 ((gp l m).2)) ∧ w'.cell? ⟨b, off + jn * 2, none⟩ = some (.int .i64 ((gp l jn).1)) ∧ w'.cell? ⟨b, off + jn * 2 + 1, none⟩ = some (.int .i64 ((gp l jn).2))) (by kernel_rfl) (by first | (go_keep; done) | ((repeat' apply And.intro) <;> go_simp)) (fun hHeld => ?_)
            refine wpAnyH_take (i := 0) (oi := ⟨some 24, _, _, _, _, _⟩) (v := ?_) rfl (by kernel_rfl) (by kernel_rfl) (by kernel_rfl) (fun _ _ _ h => h) (Or.inl ⟨by rfl, ?_⟩) (by assumption) ?_
            rotate_left
            · intro w hSw; (try dsimp only at hSw); go_simp; try with_reducible rfl
            try simp only [Act.put, List.setIfInBounds_toArray, List.set_cons_zero, List.set_cons_succ]
            refine wpAnyH_take (i := 1) (oi := ⟨some 25, _, _, _, _, _⟩) (v := ?_) rfl (by kernel_rfl) (by kernel_rfl) (by kernel_rfl) (fun _ _ _ h => h) (Or.inl ⟨by rfl, ?_⟩) (by assumption) ?_
            rotate_left
            · intro w hSw; (try dsimp only at hSw); go_simp; try with_reducible rfl
            try simp only [Act.put, List.setIfInBounds_toArray, List.set_cons_zero, List.set_cons_succ]
            refine wpAnyH_take (i := 2) (oi := ⟨some 26, _, _, _, _, _⟩) (v := ?_) rfl (by kernel_rfl) (by kernel_rfl) (by kernel_rfl) (fun _ _ _ h => h) (Or.inl ⟨by rfl, ?_⟩) (by assumption) ?_
            rotate_left
            · intro w hSw; (try dsimp only at hSw); go_simp; try with_reducible rfl
            try simp only [Act.put, List.setIfInBounds_toArray, List.set_cons_zero, List.set_cons_succ]
            refine wpAnyH_take (i := 3) (oi := ⟨some 27, _, _, _, _, _⟩) (v := ?_) rfl (by kernel_rfl) (by kernel_rfl) (by kernel_rfl) (fun _ _ _ h => h) (Or.inl ⟨by rfl, ?_⟩) (by assumption) ?_
            rotate_left
            · intro w hSw; (try dsimp only at hSw); go_simp; try with_reducible rfl
            try simp only [Act.put, List.setIfInBounds_toArray, List.set_cons_zero, List.set_cons_succ]
            refine wpAnyH_take (i := 4) (oi := ⟨some 28, _, _, _, _, _⟩) (v := ?_) rfl (by kernel_rfl) (by kernel_rfl) (by kernel_rfl) (fun _ _ _ h => h) (Or.inl ⟨by rfl, ?_⟩) (by assumption) ?_
            rotate_left
            · intro w hSw; (try dsimp only at hSw); go_simp; try with_reducible rfl
            try simp only [Act.put, List.setIfInBounds_toArray, List.set_cons_zero, List.set_cons_succ]
            refine wpAnyH_take (i := 5) (oi := ⟨some 29, _, _, _, _, _⟩) (v := ?_) rfl (by kernel_rfl) (by kernel_rfl) (by kernel_rfl) (fun _ _ _ h => h) (Or.inl ⟨by rfl, ?_⟩) (by assumption) ?_
            rotate_left
            · intro w hSw; (try dsimp only at hSw); go_simp; try with_reducible rfl
            try simp only [Act.put, List.setIfInBounds_toArray, List.set_cons_zero, List.set_cons_succ]
            refine wpAnyH_take (i := 6) (oi := ⟨some 30, _, _, _, _, _⟩) (v := ?_) rfl (by kernel_rfl) (by kernel_rfl) (by kernel_rfl) (fun _ _ _ h => h) (Or.inl ⟨by rfl, ?_⟩) (by assumption) ?_
            rotate_left
            · intro w hSw; (try dsimp only at hSw); go_simp; try with_reducible rfl
            try simp only [Act.put, List.setIfInBounds_toArray, List.set_cons_zero, List.set_cons_succ]
            refine wpAnyH_take (i := 7) (oi := ⟨some 31, _, _, _, _, _⟩) (v := ?_) rfl (by kernel_rfl) (by kernel_rfl) (by kernel_rfl) (fun _ _ _ h => h) (Or.inl ⟨by rfl, ?_⟩) (by assumption) ?_
            rotate_left
            · intro w hSw; (try dsimp only at hSw); go_simp; try with_reducible rfl
            try simp only [Act.put, List.setIfInBounds_toArray, List.set_cons_zero, List.set_cons_succ]
            refine wpAnyH_take (i := 8) (oi := ⟨some 32, _, _, _, _, _⟩) (v := ?_) rfl (by kernel_rfl) (by kernel_rfl) (by kernel_rfl) (fun _ _ _ h => h) (Or.inl ⟨by rfl, ?_⟩) (by assumption) ?_
            rotate_left
            · intro w hSw; (try dsimp only at hSw); go_simp; try with_reducible rfl
            try simp only [Act.put, List.setIfInBounds_toArray, List.set_cons_zero, List.set_cons_succ]
            refine wpAnyH_take (i := 9) (oi := ⟨some 33, _, _, _, _, _⟩) (v := ?_) rfl (by kernel_rfl) (by kernel_rfl) (by kernel_rfl) (fun _ _ _ h => h) (Or.inl ⟨by rfl, ?_⟩) (by assumption) ?_
            rotate_left
            · intro w hSw; (try dsimp only at hSw); go_simp; try with_reducible rfl
            try simp only [Act.put, List.setIfInBounds_toArray, List.set_cons_zero, List.set_cons_succ]
            refine wpAnyH_take (i := 10) (oi := ⟨some 34, _, _, _, _, _⟩) (v := ?_) rfl (by kernel_rfl) (by kernel_rfl) (by kernel_rfl) (fun _ _ _ h => h) (Or.inl ⟨by rfl, ?_⟩) (by assumption) ?_
            rotate_left
            · intro w hSw; (try dsimp only at hSw); go_simp; try with_reducible rfl
            try simp only [Act.put, List.setIfInBounds_toArray, List.set_cons_zero, List.set_cons_succ]
            refine wpAnyH_take (i := 11) (oi := ⟨some 35, _, _, _, _, _⟩) (v := ?_) rfl (by kernel_rfl) (by kernel_rfl) (by kernel_rfl) (fun _ _ _ h => h) (Or.inl ⟨by rfl, ?_⟩) (by assumption) ?_
            rotate_left
            · intro w hSw; (try dsimp only at hSw); go_simp; try with_reducible rfl
            try simp only [Act.put, List.setIfInBounds_toArray, List.set_cons_zero, List.set_cons_succ]
            refine wpAnyH_take (i := 12) (oi := ⟨some 36, _, _, _, _, _⟩) (v := ?_) rfl (by kernel_rfl) (by kernel_rfl) (by kernel_rfl) (fun _ _ _ h => h) (Or.inl ⟨by rfl, ?_⟩) (by assumption) ?_
            rotate_left
            · intro w hSw; (try dsimp only at hSw); go_simp; try with_reducible rfl
            try simp only [Act.put, List.setIfInBounds_toArray, List.set_cons_zero, List.set_cons_succ]
            refine wpAnyH_take (i := 13) (oi := ⟨some 37, _, _, _, _, _⟩) (v := ?_) rfl (by kernel_rfl) (by kernel_rfl) (by kernel_rfl) (fun _ _ _ h => h) (Or.inl ⟨by rfl, ?_⟩) (by assumption) ?_
            rotate_left
            · intro w hSw; (try dsimp only at hSw); go_simp; try with_reducible rfl
            try simp only [Act.put, List.setIfInBounds_toArray, List.set_cons_zero, List.set_cons_succ]
            refine wpAnyH_take (i := 14) (oi := ⟨some 38, _, _, _, _, _⟩) (v := ?_) rfl (by kernel_rfl) (by kernel_rfl) (by kernel_rfl) (fun _ _ _ h => h) (Or.inl ⟨by rfl, ?_⟩) (by assumption) ?_
            rotate_left
            · intro w hSw; (try dsimp only at hSw); go_simp; try with_reducible rfl
            try simp only [Act.put, List.setIfInBounds_toArray, List.set_cons_zero, List.set_cons_succ]
            refine wpAnyH_take (i := 15) (oi := ⟨some 39, _, _, _, _, _⟩) (v := ?_) rfl (by kernel_rfl) (by kernel_rfl) (by kernel_rfl) (fun _ _ _ h => h) (Or.inl ⟨by rfl, ?_⟩) (by assumption) ?_
            rotate_left
            · intro w hSw; (try dsimp only at hSw); go_simp; try with_reducible rfl
            try simp only [Act.put, List.setIfInBounds_toArray, List.set_cons_zero, List.set_cons_succ]
            refine wpAnyH_take (i := 16) (oi := ⟨some 40, _, _, _, _, _⟩) (v := ?_) rfl (by kernel_rfl) (by kernel_rfl) (by kernel_rfl) (fun _ _ _ h => h) (Or.inl ⟨by rfl, ?_⟩) (by assumption) ?_
            rotate_left
            · intro w hSw; (try dsimp only at hSw); go_simp; try with_reducible rfl
            try simp only [Act.put, List.setIfInBounds_toArray, List.set_cons_zero, List.set_cons_succ]
            refine wpAnyH_take (i := 17) (oi := ⟨some 41, _, _, _, _, _⟩) (v := ?_) rfl (by kernel_rfl) (by kernel_rfl) (by kernel_rfl) (fun _ _ _ h => h) (Or.inl ⟨by rfl, ?_⟩) (by assumption) ?_
            rotate_left
            · intro w hSw; (try dsimp only at hSw); go_simp; try with_reducible rfl
            try simp only [Act.put, List.setIfInBounds_toArray, List.set_cons_zero, List.set_cons_succ]
            refine wpAnyH_take (i := 18) (oi := ⟨some 42, _, _, _, _, _⟩) (v := ?_) rfl (by kernel_rfl) (by kernel_rfl) (by kernel_rfl) (fun _ _ _ h => h) (Or.inl ⟨by rfl, ?_⟩) (by assumption) ?_
            rotate_left
            · intro w hSw; (try dsimp only at hSw); go_simp; try with_reducible rfl
            try simp only [Act.put, List.setIfInBounds_toArray, List.set_cons_zero, List.set_cons_succ]
            refine wpAnyH_take (i := 19) (oi := ⟨some 43, _, _, _, _, _⟩) (v := ?_) rfl (by kernel_rfl) (by kernel_rfl) (by kernel_rfl) (fun _ _ _ h => h) (Or.inl ⟨by rfl, ?_⟩) (by assumption) ?_
            rotate_left
            · intro w hSw; (try dsimp only at hSw); go_simp; try with_reducible rfl
            try simp only [Act.put, List.setIfInBounds_toArray, List.set_cons_zero, List.set_cons_succ]
            refine wpAnyH_take (i := 20) (oi := ⟨some 44, _, _, _, _, _⟩) (v := ?_) rfl (by kernel_rfl) (by kernel_rfl) (by kernel_rfl) (fun _ _ _ h => h) (Or.inl ⟨by rfl, ?_⟩) (by assumption) ?_
            rotate_left
            · intro w hSw; (try dsimp only at hSw); go_simp; try with_reducible rfl
            try simp only [Act.put, List.setIfInBounds_toArray, List.set_cons_zero, List.set_cons_succ]
            refine wpAnyH_ready (rs := [21]) (by kernel_rfl) (by simp) ?_
            refine AllReadyH.cons (o := ⟨some 45, _, _, _, _, _⟩) rfl (fun K hK => ?_) AllReadyH.nil
            go_simp
            refine Calls.mono (pmeet_c _ _ _ _ _ _ _ _ _ (by assumption) (by assumption) (by assumption) (by assumption)) ?_
            rintro e w1 ⟨rfl, hb1⟩
            have hB1 : Below w.heap.size w w1 := (by repeat (first | with_reducible exact Below.refl _ _ | with_reducible assumption | with_reducible refine Below.setCell ?_ (by first | omega | (simp <;> omega)) _ | with_reducible refine balloc ?_ _ | with_reducible refine Below.drew ?_ | with_reducible refine bstep ?_ (by with_reducible assumption)))
            obtain ⟨hc1, hf1⟩ := bcell hb1
            have g1 := fun o => hc1 b o (by first | omega | (simp <;> omega))
            clear hc1 hf1 hb1
            (try go_wp2_with fail)
            refine hK.out _ _ (by first | (go_keep; done) | ((repeat' apply And.intro) <;> go_simp)) (fun hHeld => ?_)
            clear hK K
            try simp only [Act.put, List.setIfInBounds_toArray, List.set_cons_zero, List.set_cons_succ]
            refine wpAnyH_take (i := 22) (oi := ⟨some 46, _, _, _, _, _⟩) (v := ?_) rfl (by kernel_rfl) (by kernel_rfl) (by kernel_rfl) (fun _ _ _ h => h) (Or.inl ⟨by rfl, ?_⟩) (by assumption) ?_
            rotate_left
            · intro w hSw; (try dsimp only at hSw); go_simp; try with_reducible rfl
            try simp only [Act.put, List.setIfInBounds_toArray, List.set_cons_zero, List.set_cons_succ]
            refine wpAnyH_done (by kernel_rfl) ?_ _
            cases hv : meetB (gp l k).1 (gp l k).2 (gp l (k + 1)).1 (gp l (k + 1)).2 (gp l m).1 (gp l m).2 (gp l jn).1 (gp l jn).2
            · have HV := Lib.hid hv
              go_wp2
              go_roundw
              case rel =>
                refine ⟨m + 1, by go_num, by omega, by omega, fun j h1 h2 h3 h4 => ?_, (by repeat (first | with_reducible exact Below.refl _ _ | with_reducible assumption | with_reducible refine Below.setCell ?_ (by first | omega | (simp <;> omega)) _ | with_reducible refine balloc ?_ _ | with_reducible refine Below.drew ?_ | with_reducible refine bstep ?_ (by with_reducible assumption)))⟩
                by_cases hjm : j = m
                · subst hjm; rw [HN.out]; exact HV.out
                · exact HI.out j (by omega) h2 h3 h4
              case measure => simp [intOf]; omega
            · have HV := Lib.hid hv
              go_wp2
              go_ret
              refine ret_bv ?_ (by repeat (first | with_reducible exact Below.refl _ _ | with_reducible assumption | with_reducible refine Below.setCell ?_ (by first | omega | (simp <;> omega)) _ | with_reducible refine balloc ?_ _ | with_reducible refine Below.drew ?_ | with_reducible refine bstep ?_ (by with_reducible assumption)))
              refine (decide_eq_false (fun h => ?_)).symm
              have := h k hlt m hml (by omega) (by rw [HJ.out]; exact hgh.out)
              unfold meP at this
              rw [HN.out, HV.out] at this
              cases this
        · go_wp2
          go_roundw
          case rel =>
            refine ⟨k + 1, by go_num, by omega, fun i hi j h2 h3 h4 => ?_, hbi⟩
            by_cases hik : i = k
            · subst hik; exact HI.out j (by omega) h2 h3 h4
            · exact HA.out i (by omega) j h2 h3 h4
          case measure => simp [intOf]; omega
    · obtain rfl : k = l.length := by omega
      go_wp2
      go_ret
      exact ret_bv (decide_eq_true HA.out).symm hbel


end Go.Proofs.YtfgajejhjbfhjaaGreat.Po
end

section
namespace Go.Proofs.YtfgajejhjbfhjaaGreat.Po
open Go.RowKit
set_option linter.unusedSimpArgs false
set_option linter.unusedVariables false

def ldAt (l : List Pt) (f : Pt) (i : Nat) : Bool := !decide (f = nx l i) && onP f (gp l i) (nx l i)
def ldVal (l : List Pt) (f t : Pt) (i : Nat) : Bool := inA (if f = gp l i then pv l i else gp l i) f (nx l i) t
def leadsF (l : List Pt) (f t : Pt) : Nat → Bool
  | 0 => true
  | n + 1 => if ldAt l f (l.length - (n + 1)) = true then ldVal l f t (l.length - (n + 1)) else leadsF l f t n
def leadsL (l : List Pt) (f t : Pt) : Bool := leadsF l f t l.length
theorem leadsF_step {l : List Pt} {f t : Pt} {k : Nat} (hk : k < l.length) : leadsF l f t (l.length - k) = if ldAt l f k = true then ldVal l f t k else leadsF l f t (l.length - (k + 1)) := by
  obtain ⟨n, hn⟩ : ∃ n, l.length - k = n + 1 := ⟨l.length - k - 1, by omega⟩
  rw [hn, leadsF, show l.length - (n + 1) = k by omega, show l.length - (k + 1) = n by omega]

set_option maxRecDepth 100000 in
set_option maxHeartbeats 3200000 in
theorem leads_c (b off cap : Nat) (l : List Pt) (f1 f2 t1 t2 : Int) (w : World) (hl : okL l = true) (hf : ok f1 f2) (ht : ok t1 t2) (h24 : l.length ≤ 24) (h0l : 0 < l.length) (hr : Row w b off l) : Calls Tryz.prog 215 #[.slice (some ⟨b, off, none⟩) l.length cap, (.agg #[.int .i64 f1, .int .i64 f2]), (.agg #[.int .i64 t1, .int .i64 t2])] w (Ret w (.bool (leadsL l (f1, f2) (t1, t2)))) := by
  have hbl := hr.lt h0l
  go_enter Tryz.func215, Tryz.ntmps215
  go_wp2
  go_loopw [13] (fun i wr => ∃ k : Nat, i = (.int .i64 k) ∧ k ≤ l.length ∧ Hid (leadsL l (f1, f2) (t1, t2) = leadsF l (f1, f2) (t1, t2) (l.length - k)) ∧ wr.cell? ⟨w.heap.size, 0, none⟩ = some (.int .i64 f1) ∧ wr.cell? ⟨w.heap.size, 1, none⟩ = some (.int .i64 f2) ∧ wr.cell? ⟨w.heap.size + 1, 0, none⟩ = some (.int .i64 t1) ∧ wr.cell? ⟨w.heap.size + 1, 1, none⟩ = some (.int .i64 t2) ∧ w.heap.size + 1 < wr.heap.size ∧ Below w.heap.size w wr) (fun i _ => l.length - (intOf i).toNat)
  case atStart => exact ⟨0, rfl, by omega, Lib.hid rfl, by go_simp, by go_simp, by go_simp, by go_simp, by simp, (by repeat (first | with_reducible exact Below.refl _ _ | with_reducible assumption | with_reducible refine Below.setCell ?_ (by first | omega | (simp <;> omega)) _ | with_reducible refine balloc ?_ _ | with_reducible refine Below.drew ?_ | with_reducible refine bstep ?_ (by with_reducible assumption)))⟩
  case round =>
    obtain ⟨k, rfl, hk, HA, v1, v2, v3, v4, hsz, hbel⟩ := hrel
    by_cases hlt : k < l.length
    · have hrr := hr.below hbl hbel
      have HS := Lib.hid (leadsF_step (f := (f1, f2)) (t := (t1, t2)) hlt)
      obtain ⟨c1, c2⟩ := hrr k hlt
      have HR := Lib.hid hr
      have HQ := Lib.hid hrr
      clear hr hrr
      have o1 := okL_gp hl k
      have o2 := okL_pv hl k
      have o3 := okL_nx hl k
      unfold okP at o1 o2 o3
      generalize hgk : gp l k = g at *
      generalize hnk : nx l k = n at *
      generalize hpk : pv l k = p at *
      obtain ⟨g1, g2⟩ := g
      obtain ⟨n1, n2⟩ := n
      obtain ⟨p1, p2⟩ := p
      have HG := Lib.hid hgk
      have HN := Lib.hid hnk
      have HP := Lib.hid hpk
      go_wp2_with fail
      refine Calls.mono (neigh_c b off cap k l _ hlt h24 (HR.out.below hbl (by repeat (first | with_reducible exact Below.refl _ _ | with_reducible assumption | with_reducible refine Below.setCell ?_ (by first | omega | (simp <;> omega)) _ | with_reducible refine balloc ?_ _ | with_reducible refine Below.drew ?_ | with_reducible refine bstep ?_ (by with_reducible assumption))))) ?_
      rw [hnk, hpk]
      clear hgk hnk hpk
      rintro e w1 ⟨rfl, hb1⟩
      obtain ⟨hc1, hf1⟩ := bcell hb1
      have hs1 := hb1.size
      (try simp at hs1)
      have k0 : w1.cell? ⟨wr.heap.size, 0, none⟩ = some (.int .i64 g1) := by rw [hc1 _ _ (by first | omega | (simp <;> omega))]; go_simp
      have k1 : w1.cell? ⟨wr.heap.size, 1, none⟩ = some (.int .i64 g2) := by rw [hc1 _ _ (by first | omega | (simp <;> omega))]; go_simp
      have k2 : w1.cell? ⟨w.heap.size, 0, none⟩ = some (.int .i64 f1) := (hc1 _ _ (by first | omega | (simp <;> omega))).trans (cell_al _ v1)
      have k3 : w1.cell? ⟨w.heap.size, 1, none⟩ = some (.int .i64 f2) := (hc1 _ _ (by first | omega | (simp <;> omega))).trans (cell_al _ v2)
      have k4 : w1.cell? ⟨w.heap.size + 1, 0, none⟩ = some (.int .i64 t1) := (hc1 _ _ (by first | omega | (simp <;> omega))).trans (cell_al _ v3)
      have k5 : w1.cell? ⟨w.heap.size + 1, 1, none⟩ = some (.int .i64 t2) := (hc1 _ _ (by first | omega | (simp <;> omega))).trans (cell_al _ v4)
      have z1 : wr.heap.size < w1.heap.size := by omega
      have z2 : w.heap.size + 1 < w1.heap.size := by omega
      have z3 : w.heap.size < w1.heap.size := by omega
      have hB1 : Below w.heap.size w w1 := (by repeat (first | with_reducible exact Below.refl _ _ | with_reducible assumption | with_reducible refine Below.setCell ?_ (by first | omega | (simp <;> omega)) _ | with_reducible refine balloc ?_ _ | with_reducible refine Below.drew ?_ | with_reducible refine bstep ?_ (by with_reducible assumption)))
      have hs0 := hbel.size
      clear hc1 hf1 hb1 v1 v2 v3 v4
      by_cases e1 : f1 = n1
      · by_cases e2 : f2 = n2
        · subst e1 e2
          have ldf : ldAt l (f1, f2) k = false := by simp [ldAt, HN.out]
          have HL := Lib.hid ldf
          clear ldf
          go_wp2
          go_roundw
          case rel => exact ⟨k + 1, by go_num, by omega, Lib.hid (by rw [HA.out, HS.out, if_neg (by rw [HL.out]; simp)]), by go_simp, by go_simp, by go_simp, by go_simp, (by first | omega | (simp <;> omega)), (by repeat (first | with_reducible exact Below.refl _ _ | with_reducible assumption | with_reducible refine Below.setCell ?_ (by first | omega | (simp <;> omega)) _ | with_reducible refine balloc ?_ _ | with_reducible refine Below.drew ?_ | with_reducible refine bstep ?_ (by with_reducible assumption)))⟩
          case measure => simp [intOf]; omega
        · subst e1
          have HF := Lib.hid (show ldAt l (f1, f2) k = onP (f1, f2) (g1, g2) (f1, n2) by simp [ldAt, HN.out, HG.out, e2])
          cases hv : on f1 f2 g1 g2 f1 n2
          · have HV := Lib.hid (show onP (f1, f2) (g1, g2) (f1, n2) = false from hv)
            go_wp2_with fail
            refine Calls.mono (pon_c _ _ _ _ _ _ _ (by assumption) (by assumption) (by assumption)) ?_
            rintro e w2 ⟨rfl, hb2⟩
            obtain ⟨hc2, hf2⟩ := bcell hb2
            have hs2 := hb2.size
            (try simp at hs2)
            replace k0 : w2.cell? ⟨wr.heap.size, 0, none⟩ = some (.int .i64 g1) := (hc2 _ _ (by first | omega | (simp <;> omega))).trans (cell_al _ (cell_al _ k0))
            replace k1 : w2.cell? ⟨wr.heap.size, 1, none⟩ = some (.int .i64 g2) := (hc2 _ _ (by first | omega | (simp <;> omega))).trans (cell_al _ (cell_al _ k1))
            replace k2 : w2.cell? ⟨w.heap.size, 0, none⟩ = some (.int .i64 f1) := (hc2 _ _ (by first | omega | (simp <;> omega))).trans (cell_al _ (cell_al _ k2))
            replace k3 : w2.cell? ⟨w.heap.size, 1, none⟩ = some (.int .i64 f2) := (hc2 _ _ (by first | omega | (simp <;> omega))).trans (cell_al _ (cell_al _ k3))
            replace k4 : w2.cell? ⟨w.heap.size + 1, 0, none⟩ = some (.int .i64 t1) := (hc2 _ _ (by first | omega | (simp <;> omega))).trans (cell_al _ (cell_al _ k4))
            replace k5 : w2.cell? ⟨w.heap.size + 1, 1, none⟩ = some (.int .i64 t2) := (hc2 _ _ (by first | omega | (simp <;> omega))).trans (cell_al _ (cell_al _ k5))
            have k6 : w2.cell? ⟨w1.heap.size, 0, none⟩ = some (.int .i64 p1) := by rw [hc2 _ _ (by first | omega | (simp <;> omega))]; go_simp
            have k7 : w2.cell? ⟨w1.heap.size, 1, none⟩ = some (.int .i64 p2) := by rw [hc2 _ _ (by first | omega | (simp <;> omega))]; go_simp
            have k8 : w2.cell? ⟨w1.heap.size + 1, 0, none⟩ = some (.int .i64 f1) := by rw [hc2 _ _ (by first | omega | (simp <;> omega))]; go_simp
            have k9 : w2.cell? ⟨w1.heap.size + 1, 1, none⟩ = some (.int .i64 n2) := by rw [hc2 _ _ (by first | omega | (simp <;> omega))]; go_simp
            have kf : w2.frozen? ⟨w1.heap.size, 0, none⟩ = false := by rw [hf2 _ _ (by first | omega | (simp <;> omega))]; go_simp
            have kg : w2.frozen? ⟨w1.heap.size, 1, none⟩ = false := by rw [hf2 _ _ (by first | omega | (simp <;> omega))]; go_simp
            have zz : w1.heap.size + 1 < w2.heap.size := by omega
            have za : w1.heap.size ≠ w1.heap.size + 1 := by omega
            have zb : w1.heap.size ≠ w.heap.size := by omega
            have zc : w1.heap.size ≠ w.heap.size + 1 := by omega
            have zd : w1.heap.size ≠ wr.heap.size := by omega
            have hB2 : Below w.heap.size w w2 := (by repeat (first | with_reducible exact Below.refl _ _ | with_reducible assumption | with_reducible refine Below.setCell ?_ (by first | omega | (simp <;> omega)) _ | with_reducible refine balloc ?_ _ | with_reducible refine Below.drew ?_ | with_reducible refine bstep ?_ (by with_reducible assumption)))
            have hle : w.heap.size ≤ w1.heap.size := by omega
            clear hc2 hf2 hb2
            go_wp2
            go_roundw
            case rel => exact ⟨k + 1, by go_num, by omega, Lib.hid (by rw [HA.out, HS.out, if_neg (by rw [HF.out, HV.out]; simp)]), by go_simp, by go_simp, by go_simp, by go_simp, (by first | omega | (simp <;> omega)), (by repeat (first | with_reducible exact Below.refl _ _ | with_reducible assumption | with_reducible refine Below.setCell ?_ (by first | omega | (simp <;> omega)) _ | with_reducible refine balloc ?_ _ | with_reducible refine Below.drew ?_ | with_reducible refine bstep ?_ (by with_reducible assumption)))⟩
            case measure => simp [intOf]; omega
          · have HV := Lib.hid (show onP (f1, f2) (g1, g2) (f1, n2) = true from hv)
            go_wp2_with fail
            refine Calls.mono (pon_c _ _ _ _ _ _ _ (by assumption) (by assumption) (by assumption)) ?_
            rintro e w2 ⟨rfl, hb2⟩
            obtain ⟨hc2, hf2⟩ := bcell hb2
            have hs2 := hb2.size
            (try simp at hs2)
            replace k0 : w2.cell? ⟨wr.heap.size, 0, none⟩ = some (.int .i64 g1) := (hc2 _ _ (by first | omega | (simp <;> omega))).trans (cell_al _ (cell_al _ k0))
            replace k1 : w2.cell? ⟨wr.heap.size, 1, none⟩ = some (.int .i64 g2) := (hc2 _ _ (by first | omega | (simp <;> omega))).trans (cell_al _ (cell_al _ k1))
            replace k2 : w2.cell? ⟨w.heap.size, 0, none⟩ = some (.int .i64 f1) := (hc2 _ _ (by first | omega | (simp <;> omega))).trans (cell_al _ (cell_al _ k2))
            replace k3 : w2.cell? ⟨w.heap.size, 1, none⟩ = some (.int .i64 f2) := (hc2 _ _ (by first | omega | (simp <;> omega))).trans (cell_al _ (cell_al _ k3))
            replace k4 : w2.cell? ⟨w.heap.size + 1, 0, none⟩ = some (.int .i64 t1) := (hc2 _ _ (by first | omega | (simp <;> omega))).trans (cell_al _ (cell_al _ k4))
            replace k5 : w2.cell? ⟨w.heap.size + 1, 1, none⟩ = some (.int .i64 t2) := (hc2 _ _ (by first | omega | (simp <;> omega))).trans (cell_al _ (cell_al _ k5))
            have k6 : w2.cell? ⟨w1.heap.size, 0, none⟩ = some (.int .i64 p1) := by rw [hc2 _ _ (by first | omega | (simp <;> omega))]; go_simp
            have k7 : w2.cell? ⟨w1.heap.size, 1, none⟩ = some (.int .i64 p2) := by rw [hc2 _ _ (by first | omega | (simp <;> omega))]; go_simp
            have k8 : w2.cell? ⟨w1.heap.size + 1, 0, none⟩ = some (.int .i64 f1) := by rw [hc2 _ _ (by first | omega | (simp <;> omega))]; go_simp
            have k9 : w2.cell? ⟨w1.heap.size + 1, 1, none⟩ = some (.int .i64 n2) := by rw [hc2 _ _ (by first | omega | (simp <;> omega))]; go_simp
            have kf : w2.frozen? ⟨w1.heap.size, 0, none⟩ = false := by rw [hf2 _ _ (by first | omega | (simp <;> omega))]; go_simp
            have kg : w2.frozen? ⟨w1.heap.size, 1, none⟩ = false := by rw [hf2 _ _ (by first | omega | (simp <;> omega))]; go_simp
            have zz : w1.heap.size + 1 < w2.heap.size := by omega
            have za : w1.heap.size ≠ w1.heap.size + 1 := by omega
            have zb : w1.heap.size ≠ w.heap.size := by omega
            have zc : w1.heap.size ≠ w.heap.size + 1 := by omega
            have zd : w1.heap.size ≠ wr.heap.size := by omega
            have hB2 : Below w.heap.size w w2 := (by repeat (first | with_reducible exact Below.refl _ _ | with_reducible assumption | with_reducible refine Below.setCell ?_ (by first | omega | (simp <;> omega)) _ | with_reducible refine balloc ?_ _ | with_reducible refine Below.drew ?_ | with_reducible refine bstep ?_ (by with_reducible assumption)))
            have hle : w.heap.size ≤ w1.heap.size := by omega
            clear hc2 hf2 hb2
            have HT := Lib.hid (show ldAt l (f1, f2) k = true by rw [HF.out]; exact HV.out)
            by_cases e3 : f1 = g1
            · by_cases e4 : f2 = g2
              · subst e3 e4
                have HX := Lib.hid (show ldVal l (f1, f2) (t1, t2) k = inA (p1, p2) (f1, f2) (f1, n2) (t1, t2) by simp [ldVal, HN.out, HG.out, HP.out])
                go_wp2_with (go_at_call 216; refine Calls.mono (inAngle_c _ _ _ _ _ _ _ _ _ (by assumption) (by assumption) (by assumption) (by assumption)) ?_; rintro e w3 ⟨rfl, hb3⟩)
                go_ret
                exact ret_bv (by rw [HA.out, HS.out, if_pos HT.out, HX.out]) (by repeat (first | with_reducible exact Below.refl _ _ | with_reducible assumption | with_reducible refine Below.setCell ?_ (by first | omega | (simp <;> omega)) _ | with_reducible refine balloc ?_ _ | with_reducible refine Below.drew ?_ | with_reducible refine bstep ?_ (by with_reducible assumption)))
              · subst e3
                have HX := Lib.hid (show ldVal l (f1, f2) (t1, t2) k = inA (f1, g2) (f1, f2) (f1, n2) (t1, t2) by simp [ldVal, HN.out, HG.out, HP.out, e4])
                go_wp2_with (go_at_call 216; refine Calls.mono (inAngle_c _ _ _ _ _ _ _ _ _ (by assumption) (by assumption) (by assumption) (by assumption)) ?_; rintro e w3 ⟨rfl, hb3⟩)
                go_ret
                exact ret_bv (by rw [HA.out, HS.out, if_pos HT.out, HX.out]) (by repeat (first | with_reducible exact Below.refl _ _ | with_reducible assumption | with_reducible refine Below.setCell ?_ (by first | omega | (simp <;> omega)) _ | with_reducible refine balloc ?_ _ | with_reducible refine Below.drew ?_ | with_reducible refine bstep ?_ (by with_reducible assumption)))
            · have HX := Lib.hid (show ldVal l (f1, f2) (t1, t2) k = inA (g1, g2) (f1, f2) (f1, n2) (t1, t2) by simp [ldVal, HN.out, HG.out, HP.out, e3])
              go_wp2_with (go_at_call 216; refine Calls.mono (inAngle_c _ _ _ _ _ _ _ _ _ (by assumption) (by assumption) (by assumption) (by assumption)) ?_; rintro e w3 ⟨rfl, hb3⟩)
              go_ret
              exact ret_bv (by rw [HA.out, HS.out, if_pos HT.out, HX.out]) (by repeat (first | with_reducible exact Below.refl _ _ | with_reducible assumption | with_reducible refine Below.setCell ?_ (by first | omega | (simp <;> omega)) _ | with_reducible refine balloc ?_ _ | with_reducible refine Below.drew ?_ | with_reducible refine bstep ?_ (by with_reducible assumption)))
      · have HF := Lib.hid (show ldAt l (f1, f2) k = onP (f1, f2) (g1, g2) (n1, n2) by simp [ldAt, HN.out, HG.out, e1])
        cases hv : on f1 f2 g1 g2 n1 n2
        · have HV := Lib.hid (show onP (f1, f2) (g1, g2) (n1, n2) = false from hv)
          go_wp2_with fail
          refine Calls.mono (pon_c _ _ _ _ _ _ _ (by assumption) (by assumption) (by assumption)) ?_
          rintro e w2 ⟨rfl, hb2⟩
          obtain ⟨hc2, hf2⟩ := bcell hb2
          have hs2 := hb2.size
          (try simp at hs2)
          replace k0 : w2.cell? ⟨wr.heap.size, 0, none⟩ = some (.int .i64 g1) := (hc2 _ _ (by first | omega | (simp <;> omega))).trans (cell_al _ (cell_al _ k0))
          replace k1 : w2.cell? ⟨wr.heap.size, 1, none⟩ = some (.int .i64 g2) := (hc2 _ _ (by first | omega | (simp <;> omega))).trans (cell_al _ (cell_al _ k1))
          replace k2 : w2.cell? ⟨w.heap.size, 0, none⟩ = some (.int .i64 f1) := (hc2 _ _ (by first | omega | (simp <;> omega))).trans (cell_al _ (cell_al _ k2))
          replace k3 : w2.cell? ⟨w.heap.size, 1, none⟩ = some (.int .i64 f2) := (hc2 _ _ (by first | omega | (simp <;> omega))).trans (cell_al _ (cell_al _ k3))
          replace k4 : w2.cell? ⟨w.heap.size + 1, 0, none⟩ = some (.int .i64 t1) := (hc2 _ _ (by first | omega | (simp <;> omega))).trans (cell_al _ (cell_al _ k4))
          replace k5 : w2.cell? ⟨w.heap.size + 1, 1, none⟩ = some (.int .i64 t2) := (hc2 _ _ (by first | omega | (simp <;> omega))).trans (cell_al _ (cell_al _ k5))
          have k6 : w2.cell? ⟨w1.heap.size, 0, none⟩ = some (.int .i64 p1) := by rw [hc2 _ _ (by first | omega | (simp <;> omega))]; go_simp
          have k7 : w2.cell? ⟨w1.heap.size, 1, none⟩ = some (.int .i64 p2) := by rw [hc2 _ _ (by first | omega | (simp <;> omega))]; go_simp
          have k8 : w2.cell? ⟨w1.heap.size + 1, 0, none⟩ = some (.int .i64 n1) := by rw [hc2 _ _ (by first | omega | (simp <;> omega))]; go_simp
          have k9 : w2.cell? ⟨w1.heap.size + 1, 1, none⟩ = some (.int .i64 n2) := by rw [hc2 _ _ (by first | omega | (simp <;> omega))]; go_simp
          have kf : w2.frozen? ⟨w1.heap.size, 0, none⟩ = false := by rw [hf2 _ _ (by first | omega | (simp <;> omega))]; go_simp
          have kg : w2.frozen? ⟨w1.heap.size, 1, none⟩ = false := by rw [hf2 _ _ (by first | omega | (simp <;> omega))]; go_simp
          have zz : w1.heap.size + 1 < w2.heap.size := by omega
          have za : w1.heap.size ≠ w1.heap.size + 1 := by omega
          have zb : w1.heap.size ≠ w.heap.size := by omega
          have zc : w1.heap.size ≠ w.heap.size + 1 := by omega
          have zd : w1.heap.size ≠ wr.heap.size := by omega
          have hB2 : Below w.heap.size w w2 := (by repeat (first | with_reducible exact Below.refl _ _ | with_reducible assumption | with_reducible refine Below.setCell ?_ (by first | omega | (simp <;> omega)) _ | with_reducible refine balloc ?_ _ | with_reducible refine Below.drew ?_ | with_reducible refine bstep ?_ (by with_reducible assumption)))
          have hle : w.heap.size ≤ w1.heap.size := by omega
          clear hc2 hf2 hb2
          go_wp2
          go_roundw
          case rel => exact ⟨k + 1, by go_num, by omega, Lib.hid (by rw [HA.out, HS.out, if_neg (by rw [HF.out, HV.out]; simp)]), by go_simp, by go_simp, by go_simp, by go_simp, (by first | omega | (simp <;> omega)), (by repeat (first | with_reducible exact Below.refl _ _ | with_reducible assumption | with_reducible refine Below.setCell ?_ (by first | omega | (simp <;> omega)) _ | with_reducible refine balloc ?_ _ | with_reducible refine Below.drew ?_ | with_reducible refine bstep ?_ (by with_reducible assumption)))⟩
          case measure => simp [intOf]; omega
        · have HV := Lib.hid (show onP (f1, f2) (g1, g2) (n1, n2) = true from hv)
          go_wp2_with fail
          refine Calls.mono (pon_c _ _ _ _ _ _ _ (by assumption) (by assumption) (by assumption)) ?_
          rintro e w2 ⟨rfl, hb2⟩
          obtain ⟨hc2, hf2⟩ := bcell hb2
          have hs2 := hb2.size
          (try simp at hs2)
          replace k0 : w2.cell? ⟨wr.heap.size, 0, none⟩ = some (.int .i64 g1) := (hc2 _ _ (by first | omega | (simp <;> omega))).trans (cell_al _ (cell_al _ k0))
          replace k1 : w2.cell? ⟨wr.heap.size, 1, none⟩ = some (.int .i64 g2) := (hc2 _ _ (by first | omega | (simp <;> omega))).trans (cell_al _ (cell_al _ k1))
          replace k2 : w2.cell? ⟨w.heap.size, 0, none⟩ = some (.int .i64 f1) := (hc2 _ _ (by first | omega | (simp <;> omega))).trans (cell_al _ (cell_al _ k2))
          replace k3 : w2.cell? ⟨w.heap.size, 1, none⟩ = some (.int .i64 f2) := (hc2 _ _ (by first | omega | (simp <;> omega))).trans (cell_al _ (cell_al _ k3))
          replace k4 : w2.cell? ⟨w.heap.size + 1, 0, none⟩ = some (.int .i64 t1) := (hc2 _ _ (by first | omega | (simp <;> omega))).trans (cell_al _ (cell_al _ k4))
          replace k5 : w2.cell? ⟨w.heap.size + 1, 1, none⟩ = some (.int .i64 t2) := (hc2 _ _ (by first | omega | (simp <;> omega))).trans (cell_al _ (cell_al _ k5))
          have k6 : w2.cell? ⟨w1.heap.size, 0, none⟩ = some (.int .i64 p1) := by rw [hc2 _ _ (by first | omega | (simp <;> omega))]; go_simp
          have k7 : w2.cell? ⟨w1.heap.size, 1, none⟩ = some (.int .i64 p2) := by rw [hc2 _ _ (by first | omega | (simp <;> omega))]; go_simp
          have k8 : w2.cell? ⟨w1.heap.size + 1, 0, none⟩ = some (.int .i64 n1) := by rw [hc2 _ _ (by first | omega | (simp <;> omega))]; go_simp
          have k9 : w2.cell? ⟨w1.heap.size + 1, 1, none⟩ = some (.int .i64 n2) := by rw [hc2 _ _ (by first | omega | (simp <;> omega))]; go_simp
          have kf : w2.frozen? ⟨w1.heap.size, 0, none⟩ = false := by rw [hf2 _ _ (by first | omega | (simp <;> omega))]; go_simp
          have kg : w2.frozen? ⟨w1.heap.size, 1, none⟩ = false := by rw [hf2 _ _ (by first | omega | (simp <;> omega))]; go_simp
          have zz : w1.heap.size + 1 < w2.heap.size := by omega
          have za : w1.heap.size ≠ w1.heap.size + 1 := by omega
          have zb : w1.heap.size ≠ w.heap.size := by omega
          have zc : w1.heap.size ≠ w.heap.size + 1 := by omega
          have zd : w1.heap.size ≠ wr.heap.size := by omega
          have hB2 : Below w.heap.size w w2 := (by repeat (first | with_reducible exact Below.refl _ _ | with_reducible assumption | with_reducible refine Below.setCell ?_ (by first | omega | (simp <;> omega)) _ | with_reducible refine balloc ?_ _ | with_reducible refine Below.drew ?_ | with_reducible refine bstep ?_ (by with_reducible assumption)))
          have hle : w.heap.size ≤ w1.heap.size := by omega
          clear hc2 hf2 hb2
          have HT := Lib.hid (show ldAt l (f1, f2) k = true by rw [HF.out]; exact HV.out)
          by_cases e3 : f1 = g1
          · by_cases e4 : f2 = g2
            · subst e3 e4
              have HX := Lib.hid (show ldVal l (f1, f2) (t1, t2) k = inA (p1, p2) (f1, f2) (n1, n2) (t1, t2) by simp [ldVal, HN.out, HG.out, HP.out])
              go_wp2_with (go_at_call 216; refine Calls.mono (inAngle_c _ _ _ _ _ _ _ _ _ (by assumption) (by assumption) (by assumption) (by assumption)) ?_; rintro e w3 ⟨rfl, hb3⟩)
              go_ret
              exact ret_bv (by rw [HA.out, HS.out, if_pos HT.out, HX.out]) (by repeat (first | with_reducible exact Below.refl _ _ | with_reducible assumption | with_reducible refine Below.setCell ?_ (by first | omega | (simp <;> omega)) _ | with_reducible refine balloc ?_ _ | with_reducible refine Below.drew ?_ | with_reducible refine bstep ?_ (by with_reducible assumption)))
            · subst e3
              have HX := Lib.hid (show ldVal l (f1, f2) (t1, t2) k = inA (f1, g2) (f1, f2) (n1, n2) (t1, t2) by simp [ldVal, HN.out, HG.out, HP.out, e4])
              go_wp2_with (go_at_call 216; refine Calls.mono (inAngle_c _ _ _ _ _ _ _ _ _ (by assumption) (by assumption) (by assumption) (by assumption)) ?_; rintro e w3 ⟨rfl, hb3⟩)
              go_ret
              exact ret_bv (by rw [HA.out, HS.out, if_pos HT.out, HX.out]) (by repeat (first | with_reducible exact Below.refl _ _ | with_reducible assumption | with_reducible refine Below.setCell ?_ (by first | omega | (simp <;> omega)) _ | with_reducible refine balloc ?_ _ | with_reducible refine Below.drew ?_ | with_reducible refine bstep ?_ (by with_reducible assumption)))
          · have HX := Lib.hid (show ldVal l (f1, f2) (t1, t2) k = inA (g1, g2) (f1, f2) (n1, n2) (t1, t2) by simp [ldVal, HN.out, HG.out, HP.out, e3])
            go_wp2_with (go_at_call 216; refine Calls.mono (inAngle_c _ _ _ _ _ _ _ _ _ (by assumption) (by assumption) (by assumption) (by assumption)) ?_; rintro e w3 ⟨rfl, hb3⟩)
            go_ret
            exact ret_bv (by rw [HA.out, HS.out, if_pos HT.out, HX.out]) (by repeat (first | with_reducible exact Below.refl _ _ | with_reducible assumption | with_reducible refine Below.setCell ?_ (by first | omega | (simp <;> omega)) _ | with_reducible refine balloc ?_ _ | with_reducible refine Below.drew ?_ | with_reducible refine bstep ?_ (by with_reducible assumption)))
    · obtain rfl : k = l.length := by omega
      go_wp2
      go_ret
      exact ret_bv (by rw [HA.out]; simp [leadsF]) hbel


end Go.Proofs.YtfgajejhjbfhjaaGreat.Po
end
