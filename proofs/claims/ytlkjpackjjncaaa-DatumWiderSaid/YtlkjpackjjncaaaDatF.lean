/- DatF: Valid. -/
import Derived.Test.YtlkjpackjjncaaaDatS
import Derived.Test.YtlkjpackjjncaaaDatN
import Derived.Test.YtlkjpackjjncaaaRows
import Derived.WalkKit
import Derived.WalkSpells
import Derived.WalkLawsBesides
import Derived.Lib.Hide
import Derived.Deep.QuietTactic
import Derived.BigQuiet
import Derived.RegionTactic
import Derived.ChangeAlike
import Derived.BigRegion
import Derived.Deep.RegionHeld3
import Derived.Deep.RegionWith
import Derived.Outline
import Derived.Laws.EntriesVeiled
import Derived.Deep.DeepCutAuto
namespace Go.Proofs.Ytlkjpackjjncaaa.Da
open Go.RowKit Sp
set_option linter.unusedSimpArgs false
set_option linter.unusedVariables false

set_option maxHeartbeats 3200000 in
theorem fac_c (m1 m2 m3 m4 m5 m6 m7 : Int) (w : World)  : Calls Try.prog 29 #[(.agg #[(.int .i64 m1), (.int .i64 m2), (.int .i64 m3), (.int .i64 m4), (.int .i64 m5), (.int .i64 m6), (.int .i64 m7)])] w (Ret w (.bool (fac m1 m2 m4 m5))) := by
  rcases Bool.eq_false_or_eq_true (wn m1 2000000) with h1 | h1
  ·
    rcases Bool.eq_false_or_eq_true (wn m2 2000000) with h2 | h2
    ·
      rcases Bool.eq_false_or_eq_true (wn m4 2000000) with h3 | h3
      ·
        go_enter Try.func29, Try.ntmps29
        go_wp2_with fail
        refine Calls.mono (within_c m1 2000000 _ (by omega) (by omega)) ?_
        rintro e w1 ⟨rfl, hb⟩
        have km0 : w1.cell? ⟨w.heap.size, 0, none⟩ = some (.int .i64 m1) := cell_later hb (by go_simp)
        have km1 : w1.cell? ⟨w.heap.size, 1, none⟩ = some (.int .i64 m2) := cell_later hb (by go_simp)
        have km2 : w1.cell? ⟨w.heap.size, 2, none⟩ = some (.int .i64 m3) := cell_later hb (by go_simp)
        have km3 : w1.cell? ⟨w.heap.size, 3, none⟩ = some (.int .i64 m4) := cell_later hb (by go_simp)
        have km4 : w1.cell? ⟨w.heap.size, 4, none⟩ = some (.int .i64 m5) := cell_later hb (by go_simp)
        have km5 : w1.cell? ⟨w.heap.size, 5, none⟩ = some (.int .i64 m6) := cell_later hb (by go_simp)
        have km6 : w1.cell? ⟨w.heap.size, 6, none⟩ = some (.int .i64 m7) := cell_later hb (by go_simp)
        have zm : w.heap.size < w1.heap.size := World.block_lt_of_cell? _ _ km0
        have hb0 : Below w.heap.size w w1 := (by repeat (first | with_reducible exact Below.refl _ _ | with_reducible assumption | with_reducible refine Below.setCell ?_ (by first | omega | (simp <;> omega)) _ | with_reducible refine balloc ?_ _ | with_reducible refine Below.drew ?_ | with_reducible refine bstep ?_ (by with_reducible assumption)))
        clear hb
        rw [h1]
        go_wp2_with fail
        refine Calls.mono (within_c m2 2000000 _ (by omega) (by omega)) ?_
        rintro e w2 ⟨rfl, hb⟩
        replace km0 := cell_later hb km0
        replace km1 := cell_later hb km1
        replace km2 := cell_later hb km2
        replace km3 := cell_later hb km3
        replace km4 := cell_later hb km4
        replace km5 := cell_later hb km5
        replace km6 := cell_later hb km6
        replace zm : w.heap.size < w2.heap.size := World.block_lt_of_cell? _ _ km0
        replace hb0 : Below w.heap.size w w2 := (by repeat (first | with_reducible exact Below.refl _ _ | with_reducible assumption | with_reducible refine Below.setCell ?_ (by first | omega | (simp <;> omega)) _ | with_reducible refine balloc ?_ _ | with_reducible refine Below.drew ?_ | with_reducible refine bstep ?_ (by with_reducible assumption)))
        clear hb
        rw [h2]
        go_wp2_with fail
        refine Calls.mono (within_c m4 2000000 _ (by omega) (by omega)) ?_
        rintro e w3 ⟨rfl, hb⟩
        replace km0 := cell_later hb km0
        replace km1 := cell_later hb km1
        replace km2 := cell_later hb km2
        replace km3 := cell_later hb km3
        replace km4 := cell_later hb km4
        replace km5 := cell_later hb km5
        replace km6 := cell_later hb km6
        replace zm : w.heap.size < w3.heap.size := World.block_lt_of_cell? _ _ km0
        replace hb0 : Below w.heap.size w w3 := (by repeat (first | with_reducible exact Below.refl _ _ | with_reducible assumption | with_reducible refine Below.setCell ?_ (by first | omega | (simp <;> omega)) _ | with_reducible refine balloc ?_ _ | with_reducible refine Below.drew ?_ | with_reducible refine bstep ?_ (by with_reducible assumption)))
        clear hb
        rw [h3]
        go_wp2_with fail
        refine Calls.mono (within_c m5 2000000 _ (by omega) (by omega)) ?_
        rintro e w4 ⟨rfl, hb⟩
        replace km0 := cell_later hb km0
        replace km1 := cell_later hb km1
        replace km2 := cell_later hb km2
        replace km3 := cell_later hb km3
        replace km4 := cell_later hb km4
        replace km5 := cell_later hb km5
        replace km6 := cell_later hb km6
        replace zm : w.heap.size < w4.heap.size := World.block_lt_of_cell? _ _ km0
        replace hb0 : Below w.heap.size w w4 := (by repeat (first | with_reducible exact Below.refl _ _ | with_reducible assumption | with_reducible refine Below.setCell ?_ (by first | omega | (simp <;> omega)) _ | with_reducible refine balloc ?_ _ | with_reducible refine Below.drew ?_ | with_reducible refine bstep ?_ (by with_reducible assumption)))
        clear hb
        go_wp2
        go_ret
        refine ret_bool ?_ (by repeat (first | with_reducible exact Below.refl _ _ | with_reducible assumption | with_reducible refine Below.setCell ?_ (by first | omega | (simp <;> omega)) _ | with_reducible refine balloc ?_ _ | with_reducible refine Below.drew ?_ | with_reducible refine bstep ?_ (by with_reducible assumption)))
        simp [fac, h1, h2, h3]
      ·
        go_enter Try.func29, Try.ntmps29
        go_wp2_with fail
        refine Calls.mono (within_c m1 2000000 _ (by omega) (by omega)) ?_
        rintro e w1 ⟨rfl, hb⟩
        have km0 : w1.cell? ⟨w.heap.size, 0, none⟩ = some (.int .i64 m1) := cell_later hb (by go_simp)
        have km1 : w1.cell? ⟨w.heap.size, 1, none⟩ = some (.int .i64 m2) := cell_later hb (by go_simp)
        have km2 : w1.cell? ⟨w.heap.size, 2, none⟩ = some (.int .i64 m3) := cell_later hb (by go_simp)
        have km3 : w1.cell? ⟨w.heap.size, 3, none⟩ = some (.int .i64 m4) := cell_later hb (by go_simp)
        have km4 : w1.cell? ⟨w.heap.size, 4, none⟩ = some (.int .i64 m5) := cell_later hb (by go_simp)
        have km5 : w1.cell? ⟨w.heap.size, 5, none⟩ = some (.int .i64 m6) := cell_later hb (by go_simp)
        have km6 : w1.cell? ⟨w.heap.size, 6, none⟩ = some (.int .i64 m7) := cell_later hb (by go_simp)
        have zm : w.heap.size < w1.heap.size := World.block_lt_of_cell? _ _ km0
        have hb0 : Below w.heap.size w w1 := (by repeat (first | with_reducible exact Below.refl _ _ | with_reducible assumption | with_reducible refine Below.setCell ?_ (by first | omega | (simp <;> omega)) _ | with_reducible refine balloc ?_ _ | with_reducible refine Below.drew ?_ | with_reducible refine bstep ?_ (by with_reducible assumption)))
        clear hb
        rw [h1]
        go_wp2_with fail
        refine Calls.mono (within_c m2 2000000 _ (by omega) (by omega)) ?_
        rintro e w2 ⟨rfl, hb⟩
        replace km0 := cell_later hb km0
        replace km1 := cell_later hb km1
        replace km2 := cell_later hb km2
        replace km3 := cell_later hb km3
        replace km4 := cell_later hb km4
        replace km5 := cell_later hb km5
        replace km6 := cell_later hb km6
        replace zm : w.heap.size < w2.heap.size := World.block_lt_of_cell? _ _ km0
        replace hb0 : Below w.heap.size w w2 := (by repeat (first | with_reducible exact Below.refl _ _ | with_reducible assumption | with_reducible refine Below.setCell ?_ (by first | omega | (simp <;> omega)) _ | with_reducible refine balloc ?_ _ | with_reducible refine Below.drew ?_ | with_reducible refine bstep ?_ (by with_reducible assumption)))
        clear hb
        rw [h2]
        go_wp2_with fail
        refine Calls.mono (within_c m4 2000000 _ (by omega) (by omega)) ?_
        rintro e w3 ⟨rfl, hb⟩
        replace km0 := cell_later hb km0
        replace km1 := cell_later hb km1
        replace km2 := cell_later hb km2
        replace km3 := cell_later hb km3
        replace km4 := cell_later hb km4
        replace km5 := cell_later hb km5
        replace km6 := cell_later hb km6
        replace zm : w.heap.size < w3.heap.size := World.block_lt_of_cell? _ _ km0
        replace hb0 : Below w.heap.size w w3 := (by repeat (first | with_reducible exact Below.refl _ _ | with_reducible assumption | with_reducible refine Below.setCell ?_ (by first | omega | (simp <;> omega)) _ | with_reducible refine balloc ?_ _ | with_reducible refine Below.drew ?_ | with_reducible refine bstep ?_ (by with_reducible assumption)))
        clear hb
        rw [h3]
        go_wp2
        go_ret
        refine ret_bool ?_ (by repeat (first | with_reducible exact Below.refl _ _ | with_reducible assumption | with_reducible refine Below.setCell ?_ (by first | omega | (simp <;> omega)) _ | with_reducible refine balloc ?_ _ | with_reducible refine Below.drew ?_ | with_reducible refine bstep ?_ (by with_reducible assumption)))
        simp [fac, h1, h2, h3]
    ·
      go_enter Try.func29, Try.ntmps29
      go_wp2_with fail
      refine Calls.mono (within_c m1 2000000 _ (by omega) (by omega)) ?_
      rintro e w1 ⟨rfl, hb⟩
      have km0 : w1.cell? ⟨w.heap.size, 0, none⟩ = some (.int .i64 m1) := cell_later hb (by go_simp)
      have km1 : w1.cell? ⟨w.heap.size, 1, none⟩ = some (.int .i64 m2) := cell_later hb (by go_simp)
      have km2 : w1.cell? ⟨w.heap.size, 2, none⟩ = some (.int .i64 m3) := cell_later hb (by go_simp)
      have km3 : w1.cell? ⟨w.heap.size, 3, none⟩ = some (.int .i64 m4) := cell_later hb (by go_simp)
      have km4 : w1.cell? ⟨w.heap.size, 4, none⟩ = some (.int .i64 m5) := cell_later hb (by go_simp)
      have km5 : w1.cell? ⟨w.heap.size, 5, none⟩ = some (.int .i64 m6) := cell_later hb (by go_simp)
      have km6 : w1.cell? ⟨w.heap.size, 6, none⟩ = some (.int .i64 m7) := cell_later hb (by go_simp)
      have zm : w.heap.size < w1.heap.size := World.block_lt_of_cell? _ _ km0
      have hb0 : Below w.heap.size w w1 := (by repeat (first | with_reducible exact Below.refl _ _ | with_reducible assumption | with_reducible refine Below.setCell ?_ (by first | omega | (simp <;> omega)) _ | with_reducible refine balloc ?_ _ | with_reducible refine Below.drew ?_ | with_reducible refine bstep ?_ (by with_reducible assumption)))
      clear hb
      rw [h1]
      go_wp2_with fail
      refine Calls.mono (within_c m2 2000000 _ (by omega) (by omega)) ?_
      rintro e w2 ⟨rfl, hb⟩
      replace km0 := cell_later hb km0
      replace km1 := cell_later hb km1
      replace km2 := cell_later hb km2
      replace km3 := cell_later hb km3
      replace km4 := cell_later hb km4
      replace km5 := cell_later hb km5
      replace km6 := cell_later hb km6
      replace zm : w.heap.size < w2.heap.size := World.block_lt_of_cell? _ _ km0
      replace hb0 : Below w.heap.size w w2 := (by repeat (first | with_reducible exact Below.refl _ _ | with_reducible assumption | with_reducible refine Below.setCell ?_ (by first | omega | (simp <;> omega)) _ | with_reducible refine balloc ?_ _ | with_reducible refine Below.drew ?_ | with_reducible refine bstep ?_ (by with_reducible assumption)))
      clear hb
      rw [h2]
      go_wp2
      go_ret
      refine ret_bool ?_ (by repeat (first | with_reducible exact Below.refl _ _ | with_reducible assumption | with_reducible refine Below.setCell ?_ (by first | omega | (simp <;> omega)) _ | with_reducible refine balloc ?_ _ | with_reducible refine Below.drew ?_ | with_reducible refine bstep ?_ (by with_reducible assumption)))
      simp [fac, h1, h2]
  ·
    go_enter Try.func29, Try.ntmps29
    go_wp2_with fail
    refine Calls.mono (within_c m1 2000000 _ (by omega) (by omega)) ?_
    rintro e w1 ⟨rfl, hb⟩
    have km0 : w1.cell? ⟨w.heap.size, 0, none⟩ = some (.int .i64 m1) := cell_later hb (by go_simp)
    have km1 : w1.cell? ⟨w.heap.size, 1, none⟩ = some (.int .i64 m2) := cell_later hb (by go_simp)
    have km2 : w1.cell? ⟨w.heap.size, 2, none⟩ = some (.int .i64 m3) := cell_later hb (by go_simp)
    have km3 : w1.cell? ⟨w.heap.size, 3, none⟩ = some (.int .i64 m4) := cell_later hb (by go_simp)
    have km4 : w1.cell? ⟨w.heap.size, 4, none⟩ = some (.int .i64 m5) := cell_later hb (by go_simp)
    have km5 : w1.cell? ⟨w.heap.size, 5, none⟩ = some (.int .i64 m6) := cell_later hb (by go_simp)
    have km6 : w1.cell? ⟨w.heap.size, 6, none⟩ = some (.int .i64 m7) := cell_later hb (by go_simp)
    have zm : w.heap.size < w1.heap.size := World.block_lt_of_cell? _ _ km0
    have hb0 : Below w.heap.size w w1 := (by repeat (first | with_reducible exact Below.refl _ _ | with_reducible assumption | with_reducible refine Below.setCell ?_ (by first | omega | (simp <;> omega)) _ | with_reducible refine balloc ?_ _ | with_reducible refine Below.drew ?_ | with_reducible refine bstep ?_ (by with_reducible assumption)))
    clear hb
    rw [h1]
    go_wp2
    go_ret
    refine ret_bool ?_ (by repeat (first | with_reducible exact Below.refl _ _ | with_reducible assumption | with_reducible refine Below.setCell ?_ (by first | omega | (simp <;> omega)) _ | with_reducible refine balloc ?_ _ | with_reducible refine Below.drew ?_ | with_reducible refine bstep ?_ (by with_reducible assumption)))
    simp [fac, h1]

set_option maxHeartbeats 3200000 in
theorem Valid_c (m1 m2 m3 m4 m5 m6 m7 : Int) (w : World)  : Calls Try.prog 12 #[(.agg #[(.int .i64 m1), (.int .i64 m2), (.int .i64 m3), (.int .i64 m4), (.int .i64 m5), (.int .i64 m6), (.int .i64 m7)])] w (Ret w (.bool (dV m1 m2 m3 m4 m5 m6 m7))) := by
  rcases Bool.eq_false_or_eq_true (fac m1 m2 m4 m5) with h1 | h1
  ·
    rcases Bool.eq_false_or_eq_true (wn m3 100000) with h2 | h2
    ·
      rcases Bool.eq_false_or_eq_true (wn m6 100000) with h3 | h3
      ·
        have u := h1
        rw [fac, Bool.and_eq_true, Bool.and_eq_true, Bool.and_eq_true, wn_iff, wn_iff, wn_iff, wn_iff, and_assoc, and_assoc] at u
        have hfa := fun w => fldA m1 m2 m3 m4 m5 m6 m7 w
        by_cases hr : 0 ≤ m7 ∧ m7 ≤ 1000
        ·
          obtain ⟨r1, r2⟩ := hr
          have hr : 0 ≤ m7 ∧ m7 ≤ 1000 := ⟨r1, r2⟩
          go_enter Try.func12, Try.ntmps12
          go_wp2_with fail
          refine Calls.mono (fac_c m1 m2 m3 m4 m5 m6 m7 _) ?_
          rintro e w1 ⟨rfl, hb⟩
          have km0 : w1.cell? ⟨w.heap.size, 0, none⟩ = some (.int .i64 m1) := cell_later hb (by go_simp)
          have km1 : w1.cell? ⟨w.heap.size, 1, none⟩ = some (.int .i64 m2) := cell_later hb (by go_simp)
          have km2 : w1.cell? ⟨w.heap.size, 2, none⟩ = some (.int .i64 m3) := cell_later hb (by go_simp)
          have km3 : w1.cell? ⟨w.heap.size, 3, none⟩ = some (.int .i64 m4) := cell_later hb (by go_simp)
          have km4 : w1.cell? ⟨w.heap.size, 4, none⟩ = some (.int .i64 m5) := cell_later hb (by go_simp)
          have km5 : w1.cell? ⟨w.heap.size, 5, none⟩ = some (.int .i64 m6) := cell_later hb (by go_simp)
          have km6 : w1.cell? ⟨w.heap.size, 6, none⟩ = some (.int .i64 m7) := cell_later hb (by go_simp)
          have zm : w.heap.size < w1.heap.size := World.block_lt_of_cell? _ _ km0
          have hb0 : Below w.heap.size w w1 := (by repeat (first | with_reducible exact Below.refl _ _ | with_reducible assumption | with_reducible refine Below.setCell ?_ (by first | omega | (simp <;> omega)) _ | with_reducible refine balloc ?_ _ | with_reducible refine Below.drew ?_ | with_reducible refine bstep ?_ (by with_reducible assumption)))
          clear hb
          rw [h1]
          go_wp2_with fail
          refine Calls.mono (within_c m3 100000 _ (by omega) (by omega)) ?_
          rintro e w2 ⟨rfl, hb⟩
          replace km0 := cell_later hb km0
          replace km1 := cell_later hb km1
          replace km2 := cell_later hb km2
          replace km3 := cell_later hb km3
          replace km4 := cell_later hb km4
          replace km5 := cell_later hb km5
          replace km6 := cell_later hb km6
          replace zm : w.heap.size < w2.heap.size := World.block_lt_of_cell? _ _ km0
          replace hb0 : Below w.heap.size w w2 := (by repeat (first | with_reducible exact Below.refl _ _ | with_reducible assumption | with_reducible refine Below.setCell ?_ (by first | omega | (simp <;> omega)) _ | with_reducible refine balloc ?_ _ | with_reducible refine Below.drew ?_ | with_reducible refine bstep ?_ (by with_reducible assumption)))
          clear hb
          rw [h2]
          go_wp2_with fail
          refine Calls.mono (within_c m6 100000 _ (by omega) (by omega)) ?_
          rintro e w3 ⟨rfl, hb⟩
          replace km0 := cell_later hb km0
          replace km1 := cell_later hb km1
          replace km2 := cell_later hb km2
          replace km3 := cell_later hb km3
          replace km4 := cell_later hb km4
          replace km5 := cell_later hb km5
          replace km6 := cell_later hb km6
          replace zm : w.heap.size < w3.heap.size := World.block_lt_of_cell? _ _ km0
          replace hb0 : Below w.heap.size w w3 := (by repeat (first | with_reducible exact Below.refl _ _ | with_reducible assumption | with_reducible refine Below.setCell ?_ (by first | omega | (simp <;> omega)) _ | with_reducible refine balloc ?_ _ | with_reducible refine Below.drew ?_ | with_reducible refine bstep ?_ (by with_reducible assumption)))
          clear hb
          rw [h3]
          go_wp2_with fail
          refine Calls.mono (affineOf_c m1 m2 m3 m4 m5 m6 m7 _) ?_
          rintro e w4 ⟨rfl, hb⟩
          replace km0 := cell_later hb km0
          replace km1 := cell_later hb km1
          replace km2 := cell_later hb km2
          replace km3 := cell_later hb km3
          replace km4 := cell_later hb km4
          replace km5 := cell_later hb km5
          replace km6 := cell_later hb km6
          replace zm : w.heap.size < w4.heap.size := World.block_lt_of_cell? _ _ km0
          replace hb0 : Below w.heap.size w w4 := (by repeat (first | with_reducible exact Below.refl _ _ | with_reducible assumption | with_reducible refine Below.setCell ?_ (by first | omega | (simp <;> omega)) _ | with_reducible refine balloc ?_ _ | with_reducible refine Below.drew ?_ | with_reducible refine bstep ?_ (by with_reducible assumption)))
          clear hb
          go_wp2_with fail
          refine Calls.mono (det_c m1 m2 m3 m4 m5 m6 _ u.1 u.2.1 u.2.2.1 u.2.2.2) ?_
          rintro e w5 ⟨rfl, hb⟩
          replace km0 := cell_later hb km0
          replace km1 := cell_later hb km1
          replace km2 := cell_later hb km2
          replace km3 := cell_later hb km3
          replace km4 := cell_later hb km4
          replace km5 := cell_later hb km5
          replace km6 := cell_later hb km6
          replace zm : w.heap.size < w5.heap.size := World.block_lt_of_cell? _ _ km0
          replace hb0 : Below w.heap.size w w5 := (by repeat (first | with_reducible exact Below.refl _ _ | with_reducible assumption | with_reducible refine Below.setCell ?_ (by first | omega | (simp <;> omega)) _ | with_reducible refine balloc ?_ _ | with_reducible refine Below.drew ?_ | with_reducible refine bstep ?_ (by with_reducible assumption)))
          clear hb
          go_wp2
          all_goals first | (exfalso; omega) | skip
          all_goals
            go_ret
            refine ret_bool ?_ (by repeat (first | with_reducible exact Below.refl _ _ | with_reducible assumption | with_reducible refine Below.setCell ?_ (by first | omega | (simp <;> omega)) _ | with_reducible refine balloc ?_ _ | with_reducible refine Below.drew ?_ | with_reducible refine bstep ?_ (by with_reducible assumption)))
            simp [dV, h1, h2, h3, hr]
        · by_cases hr1 : 0 ≤ m7
          ·
            have hr2 : ¬ m7 ≤ 1000 := fun h => hr ⟨hr1, h⟩
            go_enter Try.func12, Try.ntmps12
            go_wp2_with fail
            refine Calls.mono (fac_c m1 m2 m3 m4 m5 m6 m7 _) ?_
            rintro e w1 ⟨rfl, hb⟩
            have km0 : w1.cell? ⟨w.heap.size, 0, none⟩ = some (.int .i64 m1) := cell_later hb (by go_simp)
            have km1 : w1.cell? ⟨w.heap.size, 1, none⟩ = some (.int .i64 m2) := cell_later hb (by go_simp)
            have km2 : w1.cell? ⟨w.heap.size, 2, none⟩ = some (.int .i64 m3) := cell_later hb (by go_simp)
            have km3 : w1.cell? ⟨w.heap.size, 3, none⟩ = some (.int .i64 m4) := cell_later hb (by go_simp)
            have km4 : w1.cell? ⟨w.heap.size, 4, none⟩ = some (.int .i64 m5) := cell_later hb (by go_simp)
            have km5 : w1.cell? ⟨w.heap.size, 5, none⟩ = some (.int .i64 m6) := cell_later hb (by go_simp)
            have km6 : w1.cell? ⟨w.heap.size, 6, none⟩ = some (.int .i64 m7) := cell_later hb (by go_simp)
            have zm : w.heap.size < w1.heap.size := World.block_lt_of_cell? _ _ km0
            have hb0 : Below w.heap.size w w1 := (by repeat (first | with_reducible exact Below.refl _ _ | with_reducible assumption | with_reducible refine Below.setCell ?_ (by first | omega | (simp <;> omega)) _ | with_reducible refine balloc ?_ _ | with_reducible refine Below.drew ?_ | with_reducible refine bstep ?_ (by with_reducible assumption)))
            clear hb
            rw [h1]
            go_wp2_with fail
            refine Calls.mono (within_c m3 100000 _ (by omega) (by omega)) ?_
            rintro e w2 ⟨rfl, hb⟩
            replace km0 := cell_later hb km0
            replace km1 := cell_later hb km1
            replace km2 := cell_later hb km2
            replace km3 := cell_later hb km3
            replace km4 := cell_later hb km4
            replace km5 := cell_later hb km5
            replace km6 := cell_later hb km6
            replace zm : w.heap.size < w2.heap.size := World.block_lt_of_cell? _ _ km0
            replace hb0 : Below w.heap.size w w2 := (by repeat (first | with_reducible exact Below.refl _ _ | with_reducible assumption | with_reducible refine Below.setCell ?_ (by first | omega | (simp <;> omega)) _ | with_reducible refine balloc ?_ _ | with_reducible refine Below.drew ?_ | with_reducible refine bstep ?_ (by with_reducible assumption)))
            clear hb
            rw [h2]
            go_wp2_with fail
            refine Calls.mono (within_c m6 100000 _ (by omega) (by omega)) ?_
            rintro e w3 ⟨rfl, hb⟩
            replace km0 := cell_later hb km0
            replace km1 := cell_later hb km1
            replace km2 := cell_later hb km2
            replace km3 := cell_later hb km3
            replace km4 := cell_later hb km4
            replace km5 := cell_later hb km5
            replace km6 := cell_later hb km6
            replace zm : w.heap.size < w3.heap.size := World.block_lt_of_cell? _ _ km0
            replace hb0 : Below w.heap.size w w3 := (by repeat (first | with_reducible exact Below.refl _ _ | with_reducible assumption | with_reducible refine Below.setCell ?_ (by first | omega | (simp <;> omega)) _ | with_reducible refine balloc ?_ _ | with_reducible refine Below.drew ?_ | with_reducible refine bstep ?_ (by with_reducible assumption)))
            clear hb
            rw [h3]
            go_wp2
            all_goals first | (exfalso; omega) | skip
            all_goals
              go_ret
              refine ret_bool ?_ (by repeat (first | with_reducible exact Below.refl _ _ | with_reducible assumption | with_reducible refine Below.setCell ?_ (by first | omega | (simp <;> omega)) _ | with_reducible refine balloc ?_ _ | with_reducible refine Below.drew ?_ | with_reducible refine bstep ?_ (by with_reducible assumption)))
              simp [dV, h1, h2, h3] <;> omega
          ·
            go_enter Try.func12, Try.ntmps12
            go_wp2_with fail
            refine Calls.mono (fac_c m1 m2 m3 m4 m5 m6 m7 _) ?_
            rintro e w1 ⟨rfl, hb⟩
            have km0 : w1.cell? ⟨w.heap.size, 0, none⟩ = some (.int .i64 m1) := cell_later hb (by go_simp)
            have km1 : w1.cell? ⟨w.heap.size, 1, none⟩ = some (.int .i64 m2) := cell_later hb (by go_simp)
            have km2 : w1.cell? ⟨w.heap.size, 2, none⟩ = some (.int .i64 m3) := cell_later hb (by go_simp)
            have km3 : w1.cell? ⟨w.heap.size, 3, none⟩ = some (.int .i64 m4) := cell_later hb (by go_simp)
            have km4 : w1.cell? ⟨w.heap.size, 4, none⟩ = some (.int .i64 m5) := cell_later hb (by go_simp)
            have km5 : w1.cell? ⟨w.heap.size, 5, none⟩ = some (.int .i64 m6) := cell_later hb (by go_simp)
            have km6 : w1.cell? ⟨w.heap.size, 6, none⟩ = some (.int .i64 m7) := cell_later hb (by go_simp)
            have zm : w.heap.size < w1.heap.size := World.block_lt_of_cell? _ _ km0
            have hb0 : Below w.heap.size w w1 := (by repeat (first | with_reducible exact Below.refl _ _ | with_reducible assumption | with_reducible refine Below.setCell ?_ (by first | omega | (simp <;> omega)) _ | with_reducible refine balloc ?_ _ | with_reducible refine Below.drew ?_ | with_reducible refine bstep ?_ (by with_reducible assumption)))
            clear hb
            rw [h1]
            go_wp2_with fail
            refine Calls.mono (within_c m3 100000 _ (by omega) (by omega)) ?_
            rintro e w2 ⟨rfl, hb⟩
            replace km0 := cell_later hb km0
            replace km1 := cell_later hb km1
            replace km2 := cell_later hb km2
            replace km3 := cell_later hb km3
            replace km4 := cell_later hb km4
            replace km5 := cell_later hb km5
            replace km6 := cell_later hb km6
            replace zm : w.heap.size < w2.heap.size := World.block_lt_of_cell? _ _ km0
            replace hb0 : Below w.heap.size w w2 := (by repeat (first | with_reducible exact Below.refl _ _ | with_reducible assumption | with_reducible refine Below.setCell ?_ (by first | omega | (simp <;> omega)) _ | with_reducible refine balloc ?_ _ | with_reducible refine Below.drew ?_ | with_reducible refine bstep ?_ (by with_reducible assumption)))
            clear hb
            rw [h2]
            go_wp2_with fail
            refine Calls.mono (within_c m6 100000 _ (by omega) (by omega)) ?_
            rintro e w3 ⟨rfl, hb⟩
            replace km0 := cell_later hb km0
            replace km1 := cell_later hb km1
            replace km2 := cell_later hb km2
            replace km3 := cell_later hb km3
            replace km4 := cell_later hb km4
            replace km5 := cell_later hb km5
            replace km6 := cell_later hb km6
            replace zm : w.heap.size < w3.heap.size := World.block_lt_of_cell? _ _ km0
            replace hb0 : Below w.heap.size w w3 := (by repeat (first | with_reducible exact Below.refl _ _ | with_reducible assumption | with_reducible refine Below.setCell ?_ (by first | omega | (simp <;> omega)) _ | with_reducible refine balloc ?_ _ | with_reducible refine Below.drew ?_ | with_reducible refine bstep ?_ (by with_reducible assumption)))
            clear hb
            rw [h3]
            go_wp2
            all_goals first | (exfalso; omega) | skip
            all_goals
              go_ret
              refine ret_bool ?_ (by repeat (first | with_reducible exact Below.refl _ _ | with_reducible assumption | with_reducible refine Below.setCell ?_ (by first | omega | (simp <;> omega)) _ | with_reducible refine balloc ?_ _ | with_reducible refine Below.drew ?_ | with_reducible refine bstep ?_ (by with_reducible assumption)))
              simp [dV, h1, h2, h3] <;> omega
      ·
        go_enter Try.func12, Try.ntmps12
        go_wp2_with fail
        refine Calls.mono (fac_c m1 m2 m3 m4 m5 m6 m7 _) ?_
        rintro e w1 ⟨rfl, hb⟩
        have km0 : w1.cell? ⟨w.heap.size, 0, none⟩ = some (.int .i64 m1) := cell_later hb (by go_simp)
        have km1 : w1.cell? ⟨w.heap.size, 1, none⟩ = some (.int .i64 m2) := cell_later hb (by go_simp)
        have km2 : w1.cell? ⟨w.heap.size, 2, none⟩ = some (.int .i64 m3) := cell_later hb (by go_simp)
        have km3 : w1.cell? ⟨w.heap.size, 3, none⟩ = some (.int .i64 m4) := cell_later hb (by go_simp)
        have km4 : w1.cell? ⟨w.heap.size, 4, none⟩ = some (.int .i64 m5) := cell_later hb (by go_simp)
        have km5 : w1.cell? ⟨w.heap.size, 5, none⟩ = some (.int .i64 m6) := cell_later hb (by go_simp)
        have km6 : w1.cell? ⟨w.heap.size, 6, none⟩ = some (.int .i64 m7) := cell_later hb (by go_simp)
        have zm : w.heap.size < w1.heap.size := World.block_lt_of_cell? _ _ km0
        have hb0 : Below w.heap.size w w1 := (by repeat (first | with_reducible exact Below.refl _ _ | with_reducible assumption | with_reducible refine Below.setCell ?_ (by first | omega | (simp <;> omega)) _ | with_reducible refine balloc ?_ _ | with_reducible refine Below.drew ?_ | with_reducible refine bstep ?_ (by with_reducible assumption)))
        clear hb
        rw [h1]
        go_wp2_with fail
        refine Calls.mono (within_c m3 100000 _ (by omega) (by omega)) ?_
        rintro e w2 ⟨rfl, hb⟩
        replace km0 := cell_later hb km0
        replace km1 := cell_later hb km1
        replace km2 := cell_later hb km2
        replace km3 := cell_later hb km3
        replace km4 := cell_later hb km4
        replace km5 := cell_later hb km5
        replace km6 := cell_later hb km6
        replace zm : w.heap.size < w2.heap.size := World.block_lt_of_cell? _ _ km0
        replace hb0 : Below w.heap.size w w2 := (by repeat (first | with_reducible exact Below.refl _ _ | with_reducible assumption | with_reducible refine Below.setCell ?_ (by first | omega | (simp <;> omega)) _ | with_reducible refine balloc ?_ _ | with_reducible refine Below.drew ?_ | with_reducible refine bstep ?_ (by with_reducible assumption)))
        clear hb
        rw [h2]
        go_wp2_with fail
        refine Calls.mono (within_c m6 100000 _ (by omega) (by omega)) ?_
        rintro e w3 ⟨rfl, hb⟩
        replace km0 := cell_later hb km0
        replace km1 := cell_later hb km1
        replace km2 := cell_later hb km2
        replace km3 := cell_later hb km3
        replace km4 := cell_later hb km4
        replace km5 := cell_later hb km5
        replace km6 := cell_later hb km6
        replace zm : w.heap.size < w3.heap.size := World.block_lt_of_cell? _ _ km0
        replace hb0 : Below w.heap.size w w3 := (by repeat (first | with_reducible exact Below.refl _ _ | with_reducible assumption | with_reducible refine Below.setCell ?_ (by first | omega | (simp <;> omega)) _ | with_reducible refine balloc ?_ _ | with_reducible refine Below.drew ?_ | with_reducible refine bstep ?_ (by with_reducible assumption)))
        clear hb
        rw [h3]
        go_wp2
        go_ret
        refine ret_bool ?_ (by repeat (first | with_reducible exact Below.refl _ _ | with_reducible assumption | with_reducible refine Below.setCell ?_ (by first | omega | (simp <;> omega)) _ | with_reducible refine balloc ?_ _ | with_reducible refine Below.drew ?_ | with_reducible refine bstep ?_ (by with_reducible assumption)))
        simp [dV, h1, h2, h3]
    ·
      go_enter Try.func12, Try.ntmps12
      go_wp2_with fail
      refine Calls.mono (fac_c m1 m2 m3 m4 m5 m6 m7 _) ?_
      rintro e w1 ⟨rfl, hb⟩
      have km0 : w1.cell? ⟨w.heap.size, 0, none⟩ = some (.int .i64 m1) := cell_later hb (by go_simp)
      have km1 : w1.cell? ⟨w.heap.size, 1, none⟩ = some (.int .i64 m2) := cell_later hb (by go_simp)
      have km2 : w1.cell? ⟨w.heap.size, 2, none⟩ = some (.int .i64 m3) := cell_later hb (by go_simp)
      have km3 : w1.cell? ⟨w.heap.size, 3, none⟩ = some (.int .i64 m4) := cell_later hb (by go_simp)
      have km4 : w1.cell? ⟨w.heap.size, 4, none⟩ = some (.int .i64 m5) := cell_later hb (by go_simp)
      have km5 : w1.cell? ⟨w.heap.size, 5, none⟩ = some (.int .i64 m6) := cell_later hb (by go_simp)
      have km6 : w1.cell? ⟨w.heap.size, 6, none⟩ = some (.int .i64 m7) := cell_later hb (by go_simp)
      have zm : w.heap.size < w1.heap.size := World.block_lt_of_cell? _ _ km0
      have hb0 : Below w.heap.size w w1 := (by repeat (first | with_reducible exact Below.refl _ _ | with_reducible assumption | with_reducible refine Below.setCell ?_ (by first | omega | (simp <;> omega)) _ | with_reducible refine balloc ?_ _ | with_reducible refine Below.drew ?_ | with_reducible refine bstep ?_ (by with_reducible assumption)))
      clear hb
      rw [h1]
      go_wp2_with fail
      refine Calls.mono (within_c m3 100000 _ (by omega) (by omega)) ?_
      rintro e w2 ⟨rfl, hb⟩
      replace km0 := cell_later hb km0
      replace km1 := cell_later hb km1
      replace km2 := cell_later hb km2
      replace km3 := cell_later hb km3
      replace km4 := cell_later hb km4
      replace km5 := cell_later hb km5
      replace km6 := cell_later hb km6
      replace zm : w.heap.size < w2.heap.size := World.block_lt_of_cell? _ _ km0
      replace hb0 : Below w.heap.size w w2 := (by repeat (first | with_reducible exact Below.refl _ _ | with_reducible assumption | with_reducible refine Below.setCell ?_ (by first | omega | (simp <;> omega)) _ | with_reducible refine balloc ?_ _ | with_reducible refine Below.drew ?_ | with_reducible refine bstep ?_ (by with_reducible assumption)))
      clear hb
      rw [h2]
      go_wp2
      go_ret
      refine ret_bool ?_ (by repeat (first | with_reducible exact Below.refl _ _ | with_reducible assumption | with_reducible refine Below.setCell ?_ (by first | omega | (simp <;> omega)) _ | with_reducible refine balloc ?_ _ | with_reducible refine Below.drew ?_ | with_reducible refine bstep ?_ (by with_reducible assumption)))
      simp [dV, h1, h2]
  ·
    go_enter Try.func12, Try.ntmps12
    go_wp2_with fail
    refine Calls.mono (fac_c m1 m2 m3 m4 m5 m6 m7 _) ?_
    rintro e w1 ⟨rfl, hb⟩
    have km0 : w1.cell? ⟨w.heap.size, 0, none⟩ = some (.int .i64 m1) := cell_later hb (by go_simp)
    have km1 : w1.cell? ⟨w.heap.size, 1, none⟩ = some (.int .i64 m2) := cell_later hb (by go_simp)
    have km2 : w1.cell? ⟨w.heap.size, 2, none⟩ = some (.int .i64 m3) := cell_later hb (by go_simp)
    have km3 : w1.cell? ⟨w.heap.size, 3, none⟩ = some (.int .i64 m4) := cell_later hb (by go_simp)
    have km4 : w1.cell? ⟨w.heap.size, 4, none⟩ = some (.int .i64 m5) := cell_later hb (by go_simp)
    have km5 : w1.cell? ⟨w.heap.size, 5, none⟩ = some (.int .i64 m6) := cell_later hb (by go_simp)
    have km6 : w1.cell? ⟨w.heap.size, 6, none⟩ = some (.int .i64 m7) := cell_later hb (by go_simp)
    have zm : w.heap.size < w1.heap.size := World.block_lt_of_cell? _ _ km0
    have hb0 : Below w.heap.size w w1 := (by repeat (first | with_reducible exact Below.refl _ _ | with_reducible assumption | with_reducible refine Below.setCell ?_ (by first | omega | (simp <;> omega)) _ | with_reducible refine balloc ?_ _ | with_reducible refine Below.drew ?_ | with_reducible refine bstep ?_ (by with_reducible assumption)))
    clear hb
    rw [h1]
    go_wp2
    go_ret
    refine ret_bool ?_ (by repeat (first | with_reducible exact Below.refl _ _ | with_reducible assumption | with_reducible refine Below.setCell ?_ (by first | omega | (simp <;> omega)) _ | with_reducible refine balloc ?_ _ | with_reducible refine Below.drew ?_ | with_reducible refine bstep ?_ (by with_reducible assumption)))
    simp [dV, h1]


end Go.Proofs.Ytlkjpackjjncaaa.Da
