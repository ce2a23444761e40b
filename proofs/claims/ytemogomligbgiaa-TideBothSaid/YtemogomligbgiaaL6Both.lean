/- L6Both: the law Both. -/
import Derived.Test.YtemogomligbgiaaTidBo
import Derived.Test.YtemogomligbgiaaRows
import Derived.WalkKit
import Derived.WalkSpells
import Derived.WalkLawsBesides
import Derived.Lib.Hide
import Derived.Deep.QuietTactic
import Derived.BigQuiet
import Derived.RegionTactic
import Derived.ChangeAlike
import Derived.BigRegion
import Derived.Deep.RegionHeld3
import Derived.Deep.RegionWith
import Derived.Outline
import Derived.IntWalk
import Derived.Deep.DeepCutAuto
import Derived.LoopTactic
namespace Go.Proofs.Ytemogomligbgiaa.Ti
open Go.RowKit Sp
set_option linter.unusedSimpArgs false
set_option linter.unusedVariables false

set_option maxRecDepth 100000 in
set_option maxHeartbeats 32000000 in
theorem both_w (w : World) (s p : Int) (u : Value) (l : List Pr) (hsp : Spans w u l) (s2 p2 : Int) (u2 : Value) (l2 : List Pr) (hsp2 : Spans w u2 l2) (need f t : Int) : Calls Try.prog 8 #[.agg #[(.int .i64 s), (.int .i64 p), u], .agg #[(.int .i64 s2), (.int .i64 p2), u2], (.int .i64 need), (.int .i64 f), (.int .i64 t)] w (Ret w (.bool true)) := by
  have F1 := fun W h => few_c s p u l W (hsp.below h)
  have F2 := fun W h => few_c s2 p2 u2 l2 W (hsp2.below h)
  have JO := fun W h => Join_c s p u l s2 p2 u2 l2 W (hsp.below h) (hsp2.below h)
  have ME := fun W h => Meet_c s p u l s2 p2 u2 l2 W (hsp.below h) (hsp2.below h)
  have MB := fun W h => Meet_c s2 p2 u2 l2 s p u l W (hsp2.below h) (hsp.below h)
  have HA := fun W h => Height_c s p u l f t W (hsp.below h)
  have HB := fun W h => Height_c s2 p2 u2 l2 f t W (hsp2.below h)
  rw [show allG (fun _ => true) l.length = true from allG_iff.2 fun _ _ => rfl] at JO
  obtain ⟨⟨pp, cap, rfl, hn, hcap, hp⟩, hl⟩ := hsp
  obtain ⟨⟨pp2, cap2, rfl, hn2, hcap2, hp2⟩, hl2⟩ := hsp2
  clear hn hp hn2 hp2
  generalize hfe : fewB p l = few at *
  generalize hfe2 : fewB p2 l2 = few2 at *
  clear hfe hfe2
  cases h0 : few
  · subst h0
    clear JO ME MB HA HB
    go_enter Try.func8, Try.ntmps8
    go_wp2_with fail
    refine Calls.mono (head_c _) ?_
    rintro e w1 ⟨rfl, hb⟩
    have kt0 : w1.cell? ⟨w.heap.size, 0, none⟩ = some (.int .i64 s) := cell_later hb (by go_simp)
    have kt1 : w1.cell? ⟨w.heap.size, 1, none⟩ = some (.int .i64 p) := cell_later hb (by go_simp)
    have kt2 : w1.cell? ⟨w.heap.size, 2, none⟩ = some (.slice pp l.length cap) := cell_later hb (by go_simp)
    have ku0 : w1.cell? ⟨w.heap.size + 1, 0, none⟩ = some (.int .i64 s2) := cell_later hb (by go_simp)
    have ku1 : w1.cell? ⟨w.heap.size + 1, 1, none⟩ = some (.int .i64 p2) := cell_later hb (by go_simp)
    have ku2 : w1.cell? ⟨w.heap.size + 1, 2, none⟩ = some (.slice pp2 l2.length cap2) := cell_later hb (by go_simp)
    have zt : w.heap.size < w1.heap.size := World.block_lt_of_cell? _ _ kt0
    have zt_w1 := zt
    have zu : w.heap.size + 1 < w1.heap.size := World.block_lt_of_cell? _ _ ku0
    have zu_w1 := zu
    have hb0 : Below w.heap.size w w1 := (by repeat (first | with_reducible exact Below.refl _ _ | with_reducible assumption | with_reducible refine Below.setCell ?_ (by first | omega | (simp <;> omega)) _ | with_reducible refine balloc ?_ _ | with_reducible refine Below.drew ?_ | with_reducible refine bstep ?_ (by with_reducible assumption)))
    have hs_w1 := hb.size; (try simp only [World.size_alloc, World.size_setCell] at hs_w1)
    clear hb
    go_wp2_with fail
    refine Calls.mono (F1 _ (by repeat (first | with_reducible exact Below.refl _ _ | with_reducible assumption | with_reducible refine Below.setCell ?_ (by first | omega | (simp <;> omega)) _ | with_reducible refine balloc ?_ _ | with_reducible refine Below.drew ?_ | with_reducible refine bstep ?_ (by with_reducible assumption)))) ?_
    rintro e w2 ⟨rfl, hb⟩
    replace kt0 := cell_later hb kt0
    replace kt1 := cell_later hb kt1
    replace kt2 := cell_later hb kt2
    replace ku0 := cell_later hb ku0
    replace ku1 := cell_later hb ku1
    replace ku2 := cell_later hb ku2
    replace zt : w.heap.size < w2.heap.size := World.block_lt_of_cell? _ _ kt0
    have zt_w2 := zt
    replace zu : w.heap.size + 1 < w2.heap.size := World.block_lt_of_cell? _ _ ku0
    have zu_w2 := zu
    replace hb0 : Below w.heap.size w w2 := (by repeat (first | with_reducible exact Below.refl _ _ | with_reducible assumption | with_reducible refine Below.setCell ?_ (by first | omega | (simp <;> omega)) _ | with_reducible refine balloc ?_ _ | with_reducible refine Below.drew ?_ | with_reducible refine bstep ?_ (by with_reducible assumption)))
    have hs_w2 : w1.heap.size ≤ w2.heap.size := hb.size
    clear hb
    go_wp2
    go_ret
    exact ⟨rfl, (by repeat (first | with_reducible exact Below.refl _ _ | with_reducible assumption | with_reducible refine Below.setCell ?_ (by first | omega | (simp <;> omega)) _ | with_reducible refine balloc ?_ _ | with_reducible refine Below.drew ?_ | with_reducible refine bstep ?_ (by with_reducible assumption)))⟩
  · cases h1 : few2
    · subst h0
      subst h1
      clear JO ME MB HA HB
      go_enter Try.func8, Try.ntmps8
      go_wp2_with fail
      refine Calls.mono (head_c _) ?_
      rintro e w1 ⟨rfl, hb⟩
      have kt0 : w1.cell? ⟨w.heap.size, 0, none⟩ = some (.int .i64 s) := cell_later hb (by go_simp)
      have kt1 : w1.cell? ⟨w.heap.size, 1, none⟩ = some (.int .i64 p) := cell_later hb (by go_simp)
      have kt2 : w1.cell? ⟨w.heap.size, 2, none⟩ = some (.slice pp l.length cap) := cell_later hb (by go_simp)
      have ku0 : w1.cell? ⟨w.heap.size + 1, 0, none⟩ = some (.int .i64 s2) := cell_later hb (by go_simp)
      have ku1 : w1.cell? ⟨w.heap.size + 1, 1, none⟩ = some (.int .i64 p2) := cell_later hb (by go_simp)
      have ku2 : w1.cell? ⟨w.heap.size + 1, 2, none⟩ = some (.slice pp2 l2.length cap2) := cell_later hb (by go_simp)
      have zt : w.heap.size < w1.heap.size := World.block_lt_of_cell? _ _ kt0
      have zt_w1 := zt
      have zu : w.heap.size + 1 < w1.heap.size := World.block_lt_of_cell? _ _ ku0
      have zu_w1 := zu
      have hb0 : Below w.heap.size w w1 := (by repeat (first | with_reducible exact Below.refl _ _ | with_reducible assumption | with_reducible refine Below.setCell ?_ (by first | omega | (simp <;> omega)) _ | with_reducible refine balloc ?_ _ | with_reducible refine Below.drew ?_ | with_reducible refine bstep ?_ (by with_reducible assumption)))
      have hs_w1 := hb.size; (try simp only [World.size_alloc, World.size_setCell] at hs_w1)
      clear hb
      go_wp2_with fail
      refine Calls.mono (F1 _ (by repeat (first | with_reducible exact Below.refl _ _ | with_reducible assumption | with_reducible refine Below.setCell ?_ (by first | omega | (simp <;> omega)) _ | with_reducible refine balloc ?_ _ | with_reducible refine Below.drew ?_ | with_reducible refine bstep ?_ (by with_reducible assumption)))) ?_
      rintro e w2 ⟨rfl, hb⟩
      replace kt0 := cell_later hb kt0
      replace kt1 := cell_later hb kt1
      replace kt2 := cell_later hb kt2
      replace ku0 := cell_later hb ku0
      replace ku1 := cell_later hb ku1
      replace ku2 := cell_later hb ku2
      replace zt : w.heap.size < w2.heap.size := World.block_lt_of_cell? _ _ kt0
      have zt_w2 := zt
      replace zu : w.heap.size + 1 < w2.heap.size := World.block_lt_of_cell? _ _ ku0
      have zu_w2 := zu
      replace hb0 : Below w.heap.size w w2 := (by repeat (first | with_reducible exact Below.refl _ _ | with_reducible assumption | with_reducible refine Below.setCell ?_ (by first | omega | (simp <;> omega)) _ | with_reducible refine balloc ?_ _ | with_reducible refine Below.drew ?_ | with_reducible refine bstep ?_ (by with_reducible assumption)))
      have hs_w2 : w1.heap.size ≤ w2.heap.size := hb.size
      clear hb
      go_wp2_with fail
      refine Calls.mono (F2 _ (by repeat (first | with_reducible exact Below.refl _ _ | with_reducible assumption | with_reducible refine Below.setCell ?_ (by first | omega | (simp <;> omega)) _ | with_reducible refine balloc ?_ _ | with_reducible refine Below.drew ?_ | with_reducible refine bstep ?_ (by with_reducible assumption)))) ?_
      rintro e w3 ⟨rfl, hb⟩
      replace kt0 := cell_later hb kt0
      replace kt1 := cell_later hb kt1
      replace kt2 := cell_later hb kt2
      replace ku0 := cell_later hb ku0
      replace ku1 := cell_later hb ku1
      replace ku2 := cell_later hb ku2
      replace zt : w.heap.size < w3.heap.size := World.block_lt_of_cell? _ _ kt0
      have zt_w3 := zt
      replace zu : w.heap.size + 1 < w3.heap.size := World.block_lt_of_cell? _ _ ku0
      have zu_w3 := zu
      replace hb0 : Below w.heap.size w w3 := (by repeat (first | with_reducible exact Below.refl _ _ | with_reducible assumption | with_reducible refine Below.setCell ?_ (by first | omega | (simp <;> omega)) _ | with_reducible refine balloc ?_ _ | with_reducible refine Below.drew ?_ | with_reducible refine bstep ?_ (by with_reducible assumption)))
      have hs_w3 : w2.heap.size ≤ w3.heap.size := hb.size
      clear hb
      go_wp2
      go_ret
      exact ⟨rfl, (by repeat (first | with_reducible exact Below.refl _ _ | with_reducible assumption | with_reducible refine Below.setCell ?_ (by first | omega | (simp <;> omega)) _ | with_reducible refine balloc ?_ _ | with_reducible refine Below.drew ?_ | with_reducible refine bstep ?_ (by with_reducible assumption)))⟩
    · cases h2 : tOk s p l s2 p2 l2
      · subst h0
        subst h1
        rw [h2] at JO ME
        simp only [tErr, Bool.false_and, Bool.true_and, cond] at JO ME
        clear HA HB MB
        go_enter Try.func8, Try.ntmps8
        go_wp2_with fail
        refine Calls.mono (head_c _) ?_
        rintro e w1 ⟨rfl, hb⟩
        have kt0 : w1.cell? ⟨w.heap.size, 0, none⟩ = some (.int .i64 s) := cell_later hb (by go_simp)
        have kt1 : w1.cell? ⟨w.heap.size, 1, none⟩ = some (.int .i64 p) := cell_later hb (by go_simp)
        have kt2 : w1.cell? ⟨w.heap.size, 2, none⟩ = some (.slice pp l.length cap) := cell_later hb (by go_simp)
        have ku0 : w1.cell? ⟨w.heap.size + 1, 0, none⟩ = some (.int .i64 s2) := cell_later hb (by go_simp)
        have ku1 : w1.cell? ⟨w.heap.size + 1, 1, none⟩ = some (.int .i64 p2) := cell_later hb (by go_simp)
        have ku2 : w1.cell? ⟨w.heap.size + 1, 2, none⟩ = some (.slice pp2 l2.length cap2) := cell_later hb (by go_simp)
        have zt : w.heap.size < w1.heap.size := World.block_lt_of_cell? _ _ kt0
        have zt_w1 := zt
        have zu : w.heap.size + 1 < w1.heap.size := World.block_lt_of_cell? _ _ ku0
        have zu_w1 := zu
        have hb0 : Below w.heap.size w w1 := (by repeat (first | with_reducible exact Below.refl _ _ | with_reducible assumption | with_reducible refine Below.setCell ?_ (by first | omega | (simp <;> omega)) _ | with_reducible refine balloc ?_ _ | with_reducible refine Below.drew ?_ | with_reducible refine bstep ?_ (by with_reducible assumption)))
        have hs_w1 := hb.size; (try simp only [World.size_alloc, World.size_setCell] at hs_w1)
        clear hb
        go_wp2_with fail
        refine Calls.mono (F1 _ (by repeat (first | with_reducible exact Below.refl _ _ | with_reducible assumption | with_reducible refine Below.setCell ?_ (by first | omega | (simp <;> omega)) _ | with_reducible refine balloc ?_ _ | with_reducible refine Below.drew ?_ | with_reducible refine bstep ?_ (by with_reducible assumption)))) ?_
        rintro e w2 ⟨rfl, hb⟩
        replace kt0 := cell_later hb kt0
        replace kt1 := cell_later hb kt1
        replace kt2 := cell_later hb kt2
        replace ku0 := cell_later hb ku0
        replace ku1 := cell_later hb ku1
        replace ku2 := cell_later hb ku2
        replace zt : w.heap.size < w2.heap.size := World.block_lt_of_cell? _ _ kt0
        have zt_w2 := zt
        replace zu : w.heap.size + 1 < w2.heap.size := World.block_lt_of_cell? _ _ ku0
        have zu_w2 := zu
        replace hb0 : Below w.heap.size w w2 := (by repeat (first | with_reducible exact Below.refl _ _ | with_reducible assumption | with_reducible refine Below.setCell ?_ (by first | omega | (simp <;> omega)) _ | with_reducible refine balloc ?_ _ | with_reducible refine Below.drew ?_ | with_reducible refine bstep ?_ (by with_reducible assumption)))
        have hs_w2 : w1.heap.size ≤ w2.heap.size := hb.size
        clear hb
        go_wp2_with fail
        refine Calls.mono (F2 _ (by repeat (first | with_reducible exact Below.refl _ _ | with_reducible assumption | with_reducible refine Below.setCell ?_ (by first | omega | (simp <;> omega)) _ | with_reducible refine balloc ?_ _ | with_reducible refine Below.drew ?_ | with_reducible refine bstep ?_ (by with_reducible assumption)))) ?_
        rintro e w3 ⟨rfl, hb⟩
        replace kt0 := cell_later hb kt0
        replace kt1 := cell_later hb kt1
        replace kt2 := cell_later hb kt2
        replace ku0 := cell_later hb ku0
        replace ku1 := cell_later hb ku1
        replace ku2 := cell_later hb ku2
        replace zt : w.heap.size < w3.heap.size := World.block_lt_of_cell? _ _ kt0
        have zt_w3 := zt
        replace zu : w.heap.size + 1 < w3.heap.size := World.block_lt_of_cell? _ _ ku0
        have zu_w3 := zu
        replace hb0 : Below w.heap.size w w3 := (by repeat (first | with_reducible exact Below.refl _ _ | with_reducible assumption | with_reducible refine Below.setCell ?_ (by first | omega | (simp <;> omega)) _ | with_reducible refine balloc ?_ _ | with_reducible refine Below.drew ?_ | with_reducible refine bstep ?_ (by with_reducible assumption)))
        have hs_w3 : w2.heap.size ≤ w3.heap.size := hb.size
        clear hb
        go_wp2_with fail
        refine Calls.mono (JO _ (by repeat (first | with_reducible exact Below.refl _ _ | with_reducible assumption | with_reducible refine Below.setCell ?_ (by first | omega | (simp <;> omega)) _ | with_reducible refine balloc ?_ _ | with_reducible refine Below.drew ?_ | with_reducible refine bstep ?_ (by with_reducible assumption)))) ?_
        rintro e w4 ⟨v3, rfl, hs3, hfr3, hb⟩
        replace kt0 := cell_later hb kt0
        replace kt1 := cell_later hb kt1
        replace kt2 := cell_later hb kt2
        replace ku0 := cell_later hb ku0
        replace ku1 := cell_later hb ku1
        replace ku2 := cell_later hb ku2
        replace zt : w.heap.size < w4.heap.size := World.block_lt_of_cell? _ _ kt0
        have zt_w4 := zt
        replace zu : w.heap.size + 1 < w4.heap.size := World.block_lt_of_cell? _ _ ku0
        have zu_w4 := zu
        replace hb0 : Below w.heap.size w w4 := (by repeat (first | with_reducible exact Below.refl _ _ | with_reducible assumption | with_reducible refine Below.setCell ?_ (by first | omega | (simp <;> omega)) _ | with_reducible refine balloc ?_ _ | with_reducible refine Below.drew ?_ | with_reducible refine bstep ?_ (by with_reducible assumption)))
        have hs_w4 : w3.heap.size ≤ w4.heap.size := hb.size
        clear hb
        obtain ⟨⟨pp3, cap3, rfl, _, _, _⟩, _⟩ := id hs3
        generalize hl3 : (bif false then jL l l2 else []).length = n3 at *
        clear hl3
        go_wp2_with fail
        refine Calls.mono (ME _ (by repeat (first | with_reducible exact Below.refl _ _ | with_reducible assumption | with_reducible refine Below.setCell ?_ (by first | omega | (simp <;> omega)) _ | with_reducible refine balloc ?_ _ | with_reducible refine Below.drew ?_ | with_reducible refine bstep ?_ (by with_reducible assumption)))) ?_
        rintro e w5 ⟨v4, rfl, hs4, hfr4, hb⟩
        have hcx : Below w4.heap.size w4 w5 := (by repeat (first | with_reducible exact Below.refl _ _ | with_reducible assumption | with_reducible refine Below.setCell ?_ (by first | omega | (simp <;> omega)) _ | with_reducible refine balloc ?_ _ | with_reducible refine Below.drew ?_ | with_reducible refine bstep ?_ (by with_reducible assumption)))
        replace hs3 := hs3.below hcx
        clear hcx
        replace kt0 := cell_later hb (cell_al _ kt0)
        replace kt1 := cell_later hb (cell_al _ kt1)
        replace kt2 := cell_later hb (cell_al _ kt2)
        replace ku0 := cell_later hb (cell_al _ ku0)
        replace ku1 := cell_later hb (cell_al _ ku1)
        replace ku2 := cell_later hb (cell_al _ ku2)
        have kj0 : w5.cell? ⟨w4.heap.size, 0, none⟩ = some (.int .i64 (selI false s)) := cell_later hb (by go_simp)
        have kj1 : w5.cell? ⟨w4.heap.size, 1, none⟩ = some (.int .i64 (selI false p)) := cell_later hb (by go_simp)
        have kj2 : w5.cell? ⟨w4.heap.size, 2, none⟩ = some (.slice pp3 n3 cap3) := cell_later hb (by go_simp)
        replace zt : w.heap.size < w5.heap.size := World.block_lt_of_cell? _ _ kt0
        have zt_w5 := zt
        replace zu : w.heap.size + 1 < w5.heap.size := World.block_lt_of_cell? _ _ ku0
        have zu_w5 := zu
        have zj : w4.heap.size < w5.heap.size := World.block_lt_of_cell? _ _ kj0
        have zj_w5 := zj
        replace hb0 : Below w.heap.size w w5 := (by repeat (first | with_reducible exact Below.refl _ _ | with_reducible assumption | with_reducible refine Below.setCell ?_ (by first | omega | (simp <;> omega)) _ | with_reducible refine balloc ?_ _ | with_reducible refine Below.drew ?_ | with_reducible refine bstep ?_ (by with_reducible assumption)))
        have hs_w5 := hb.size; (try simp only [World.size_alloc, World.size_setCell] at hs_w5)
        clear hb
        obtain ⟨⟨pp4, cap4, rfl, _, _, _⟩, _⟩ := id hs4
        go_wp2
        go_ret
        exact ⟨rfl, (by repeat (first | with_reducible exact Below.refl _ _ | with_reducible assumption | with_reducible refine Below.setCell ?_ (by first | omega | (simp <;> omega)) _ | with_reducible refine balloc ?_ _ | with_reducible refine Below.drew ?_ | with_reducible refine bstep ?_ (by with_reducible assumption)))⟩
      · cases h3 : tAl s p l s2 p2 l2
        · subst h0
          subst h1
          rw [h2, h3] at JO ME
          simp only [tErr, Bool.false_and, Bool.true_and, cond] at JO ME
          clear HA HB MB
          go_enter Try.func8, Try.ntmps8
          go_wp2_with fail
          refine Calls.mono (head_c _) ?_
          rintro e w1 ⟨rfl, hb⟩
          have kt0 : w1.cell? ⟨w.heap.size, 0, none⟩ = some (.int .i64 s) := cell_later hb (by go_simp)
          have kt1 : w1.cell? ⟨w.heap.size, 1, none⟩ = some (.int .i64 p) := cell_later hb (by go_simp)
          have kt2 : w1.cell? ⟨w.heap.size, 2, none⟩ = some (.slice pp l.length cap) := cell_later hb (by go_simp)
          have ku0 : w1.cell? ⟨w.heap.size + 1, 0, none⟩ = some (.int .i64 s2) := cell_later hb (by go_simp)
          have ku1 : w1.cell? ⟨w.heap.size + 1, 1, none⟩ = some (.int .i64 p2) := cell_later hb (by go_simp)
          have ku2 : w1.cell? ⟨w.heap.size + 1, 2, none⟩ = some (.slice pp2 l2.length cap2) := cell_later hb (by go_simp)
          have zt : w.heap.size < w1.heap.size := World.block_lt_of_cell? _ _ kt0
          have zt_w1 := zt
          have zu : w.heap.size + 1 < w1.heap.size := World.block_lt_of_cell? _ _ ku0
          have zu_w1 := zu
          have hb0 : Below w.heap.size w w1 := (by repeat (first | with_reducible exact Below.refl _ _ | with_reducible assumption | with_reducible refine Below.setCell ?_ (by first | omega | (simp <;> omega)) _ | with_reducible refine balloc ?_ _ | with_reducible refine Below.drew ?_ | with_reducible refine bstep ?_ (by with_reducible assumption)))
          have hs_w1 := hb.size; (try simp only [World.size_alloc, World.size_setCell] at hs_w1)
          clear hb
          go_wp2_with fail
          refine Calls.mono (F1 _ (by repeat (first | with_reducible exact Below.refl _ _ | with_reducible assumption | with_reducible refine Below.setCell ?_ (by first | omega | (simp <;> omega)) _ | with_reducible refine balloc ?_ _ | with_reducible refine Below.drew ?_ | with_reducible refine bstep ?_ (by with_reducible assumption)))) ?_
          rintro e w2 ⟨rfl, hb⟩
          replace kt0 := cell_later hb kt0
          replace kt1 := cell_later hb kt1
          replace kt2 := cell_later hb kt2
          replace ku0 := cell_later hb ku0
          replace ku1 := cell_later hb ku1
          replace ku2 := cell_later hb ku2
          replace zt : w.heap.size < w2.heap.size := World.block_lt_of_cell? _ _ kt0
          have zt_w2 := zt
          replace zu : w.heap.size + 1 < w2.heap.size := World.block_lt_of_cell? _ _ ku0
          have zu_w2 := zu
          replace hb0 : Below w.heap.size w w2 := (by repeat (first | with_reducible exact Below.refl _ _ | with_reducible assumption | with_reducible refine Below.setCell ?_ (by first | omega | (simp <;> omega)) _ | with_reducible refine balloc ?_ _ | with_reducible refine Below.drew ?_ | with_reducible refine bstep ?_ (by with_reducible assumption)))
          have hs_w2 : w1.heap.size ≤ w2.heap.size := hb.size
          clear hb
          go_wp2_with fail
          refine Calls.mono (F2 _ (by repeat (first | with_reducible exact Below.refl _ _ | with_reducible assumption | with_reducible refine Below.setCell ?_ (by first | omega | (simp <;> omega)) _ | with_reducible refine balloc ?_ _ | with_reducible refine Below.drew ?_ | with_reducible refine bstep ?_ (by with_reducible assumption)))) ?_
          rintro e w3 ⟨rfl, hb⟩
          replace kt0 := cell_later hb kt0
          replace kt1 := cell_later hb kt1
          replace kt2 := cell_later hb kt2
          replace ku0 := cell_later hb ku0
          replace ku1 := cell_later hb ku1
          replace ku2 := cell_later hb ku2
          replace zt : w.heap.size < w3.heap.size := World.block_lt_of_cell? _ _ kt0
          have zt_w3 := zt
          replace zu : w.heap.size + 1 < w3.heap.size := World.block_lt_of_cell? _ _ ku0
          have zu_w3 := zu
          replace hb0 : Below w.heap.size w w3 := (by repeat (first | with_reducible exact Below.refl _ _ | with_reducible assumption | with_reducible refine Below.setCell ?_ (by first | omega | (simp <;> omega)) _ | with_reducible refine balloc ?_ _ | with_reducible refine Below.drew ?_ | with_reducible refine bstep ?_ (by with_reducible assumption)))
          have hs_w3 : w2.heap.size ≤ w3.heap.size := hb.size
          clear hb
          go_wp2_with fail
          refine Calls.mono (JO _ (by repeat (first | with_reducible exact Below.refl _ _ | with_reducible assumption | with_reducible refine Below.setCell ?_ (by first | omega | (simp <;> omega)) _ | with_reducible refine balloc ?_ _ | with_reducible refine Below.drew ?_ | with_reducible refine bstep ?_ (by with_reducible assumption)))) ?_
          rintro e w4 ⟨v3, rfl, hs3, hfr3, hb⟩
          replace kt0 := cell_later hb kt0
          replace kt1 := cell_later hb kt1
          replace kt2 := cell_later hb kt2
          replace ku0 := cell_later hb ku0
          replace ku1 := cell_later hb ku1
          replace ku2 := cell_later hb ku2
          replace zt : w.heap.size < w4.heap.size := World.block_lt_of_cell? _ _ kt0
          have zt_w4 := zt
          replace zu : w.heap.size + 1 < w4.heap.size := World.block_lt_of_cell? _ _ ku0
          have zu_w4 := zu
          replace hb0 : Below w.heap.size w w4 := (by repeat (first | with_reducible exact Below.refl _ _ | with_reducible assumption | with_reducible refine Below.setCell ?_ (by first | omega | (simp <;> omega)) _ | with_reducible refine balloc ?_ _ | with_reducible refine Below.drew ?_ | with_reducible refine bstep ?_ (by with_reducible assumption)))
          have hs_w4 : w3.heap.size ≤ w4.heap.size := hb.size
          clear hb
          obtain ⟨⟨pp3, cap3, rfl, _, _, _⟩, _⟩ := id hs3
          generalize hl3 : (bif false then jL l l2 else []).length = n3 at *
          clear hl3
          go_wp2_with fail
          refine Calls.mono (ME _ (by repeat (first | with_reducible exact Below.refl _ _ | with_reducible assumption | with_reducible refine Below.setCell ?_ (by first | omega | (simp <;> omega)) _ | with_reducible refine balloc ?_ _ | with_reducible refine Below.drew ?_ | with_reducible refine bstep ?_ (by with_reducible assumption)))) ?_
          rintro e w5 ⟨v4, rfl, hs4, hfr4, hb⟩
          have hcx : Below w4.heap.size w4 w5 := (by repeat (first | with_reducible exact Below.refl _ _ | with_reducible assumption | with_reducible refine Below.setCell ?_ (by first | omega | (simp <;> omega)) _ | with_reducible refine balloc ?_ _ | with_reducible refine Below.drew ?_ | with_reducible refine bstep ?_ (by with_reducible assumption)))
          replace hs3 := hs3.below hcx
          clear hcx
          replace kt0 := cell_later hb (cell_al _ kt0)
          replace kt1 := cell_later hb (cell_al _ kt1)
          replace kt2 := cell_later hb (cell_al _ kt2)
          replace ku0 := cell_later hb (cell_al _ ku0)
          replace ku1 := cell_later hb (cell_al _ ku1)
          replace ku2 := cell_later hb (cell_al _ ku2)
          have kj0 : w5.cell? ⟨w4.heap.size, 0, none⟩ = some (.int .i64 (selI false s)) := cell_later hb (by go_simp)
          have kj1 : w5.cell? ⟨w4.heap.size, 1, none⟩ = some (.int .i64 (selI false p)) := cell_later hb (by go_simp)
          have kj2 : w5.cell? ⟨w4.heap.size, 2, none⟩ = some (.slice pp3 n3 cap3) := cell_later hb (by go_simp)
          replace zt : w.heap.size < w5.heap.size := World.block_lt_of_cell? _ _ kt0
          have zt_w5 := zt
          replace zu : w.heap.size + 1 < w5.heap.size := World.block_lt_of_cell? _ _ ku0
          have zu_w5 := zu
          have zj : w4.heap.size < w5.heap.size := World.block_lt_of_cell? _ _ kj0
          have zj_w5 := zj
          replace hb0 : Below w.heap.size w w5 := (by repeat (first | with_reducible exact Below.refl _ _ | with_reducible assumption | with_reducible refine Below.setCell ?_ (by first | omega | (simp <;> omega)) _ | with_reducible refine balloc ?_ _ | with_reducible refine Below.drew ?_ | with_reducible refine bstep ?_ (by with_reducible assumption)))
          have hs_w5 := hb.size; (try simp only [World.size_alloc, World.size_setCell] at hs_w5)
          clear hb
          obtain ⟨⟨pp4, cap4, rfl, _, _, _⟩, _⟩ := id hs4
          go_wp2
          go_ret
          exact ⟨rfl, (by repeat (first | with_reducible exact Below.refl _ _ | with_reducible assumption | with_reducible refine Below.setCell ?_ (by first | omega | (simp <;> omega)) _ | with_reducible refine balloc ?_ _ | with_reducible refine Below.drew ?_ | with_reducible refine bstep ?_ (by with_reducible assumption)))⟩
        · subst h0
          subst h1
          have hok := h2
          have hal := h3
          simp only [tOk, Bool.and_eq_true] at hok
          simp only [tAl, Bool.and_eq_true, decide_eq_true_eq] at hal
          obtain ⟨hv, hv2⟩ := hok
          obtain ⟨rfl, rfl, hll⟩ := hal
          have hll2 := hll.symm
          have h2b : tOk s p l2 s p l = true := by unfold tOk; rw [hv, hv2]; rfl
          have h3b : tAl s p l2 s p l = true := by unfold tAl; rw [decide_eq_true hll2]; simp
          rw [h2, h3] at JO ME
          rw [h2b, h3b, mG_comm hll2, mL_comm hll2] at MB
          simp only [tErr, Bool.true_and, cond] at JO ME MB
          have BF := both_facts hv hv2 hll2 f t
          have hEa := hE_va hv hv2 hll2 f t
          have hEj := hE_va hv (va_jn hv hv2 hll2) (jL_len l l2) f t
          rw [hEa] at HB
          have JO2 : ∀ W, Below w.heap.size w W → Calls Try.prog 25 #[.agg #[(.int .i64 s), (.int .i64 p), .slice pp l.length cap], .agg #[(.int .i64 s), (.int .i64 p), .slice pp2 l2.length cap2]] W (fun e W' => ∃ v', e = .returned (.tuple #[.agg #[(.int .i64 s), (.int .i64 p), v'], (.int .i64 0)]) ∧ Spans W' v' (jL l l2) ∧ Fresh W.heap.size v' ∧ Below W.heap.size W W') := JO
          clear JO
          have HJ := fun v3 W (h : Spans W v3 (jL l l2)) => Height_c s p v3 (jL l l2) f t W h
          rw [hEj] at HJ
          have hjl := jL_len l l2
          have hml := mL_len l l2
          clear hEa hEj hv hv2 h2 h3 h2b h3b
          have HM := fun v3 W (h : Spans W v3 (mL l l2)) => Height_c s p v3 (mL l l2) f t W h
          generalize hE s p l f t = e0 at *
          generalize hV s p l f t = a at *
          generalize hV s p l2 f t = b at *
          generalize hV s p (jL l l2) f t = c at *
          generalize hV s p (mL l l2) f t = d at *
          generalize hE s p (mL l l2) f t = em at *
          generalize jL l l2 = lj at *
          obtain ⟨a1, a2⟩ := a
          obtain ⟨b1, b2⟩ := b
          obtain ⟨c1, c2⟩ := c
          obtain ⟨d1, d2⟩ := d
          dsimp only at HA HB HJ HM BF
          have HJL : Hid (lj.length = l.length) := Lib.hid hjl
          have HLL := Lib.hid hll
          clear hll hll2 hjl
          by_cases h5 : e0 = 0
          · subst h5
            obtain ⟨_, _, hc, oa, ob, hm⟩ := BF rfl
            simp only [jn, Prod.mk.injEq] at hc
            obtain ⟨rfl, rfl⟩ := hc
            have oa1 := okH_iff.1 oa
            have ob1 := okH_iff.1 ob
            dsimp only at oa1 ob1
            have va : vE 1000000000000 a1 a2 = true := by rw [vE_iff]; omega
            have vb : vE 1000000000000 b1 b2 = true := by rw [vE_iff]; omega
            have JJ : ∀ w, Calls Try.prog 29 #[.agg #[(.int .i64 a1), (.int .i64 a2)], .agg #[(.int .i64 b1), (.int .i64 b2)]] w (Ret w (.tuple #[.agg #[(.int .i64 (min a1 b1)), (.int .i64 (max a2 b2))], (.int .i64 0)])) := fun w => by have := Sp.Join_c a1 a2 b1 b2 w; simpa [vJoin, va, vb, selI, erv] using this
            have hcn : min a1 b1 < need ∨ (need ≤ a1 ∧ need ≤ b1) := by omega
            clear BF
            cases h6 : mG l l2
            · rw [h6] at ME MB
              simp only [erv, cond] at ME MB
              clear HM hm va vb oa ob oa1 ob1
              generalize min a1 b1 = c1 at *
              generalize max a2 b2 = c2 at *
              rcases hcn with hcn | ⟨hcn1, hcn2⟩
              · go_enter Try.func8, Try.ntmps8
                go_wp2_with fail
                refine Calls.mono (head_c _) ?_
                rintro e w1 ⟨rfl, hb⟩
                have kt0 : w1.cell? ⟨w.heap.size, 0, none⟩ = some (.int .i64 s) := cell_later hb (by go_simp)
                have kt1 : w1.cell? ⟨w.heap.size, 1, none⟩ = some (.int .i64 p) := cell_later hb (by go_simp)
                have kt2 : w1.cell? ⟨w.heap.size, 2, none⟩ = some (.slice pp l.length cap) := cell_later hb (by go_simp)
                have ku0 : w1.cell? ⟨w.heap.size + 1, 0, none⟩ = some (.int .i64 s) := cell_later hb (by go_simp)
                have ku1 : w1.cell? ⟨w.heap.size + 1, 1, none⟩ = some (.int .i64 p) := cell_later hb (by go_simp)
                have ku2 : w1.cell? ⟨w.heap.size + 1, 2, none⟩ = some (.slice pp2 l2.length cap2) := cell_later hb (by go_simp)
                have zt : w.heap.size < w1.heap.size := World.block_lt_of_cell? _ _ kt0
                have zt_w1 := zt
                have zu : w.heap.size + 1 < w1.heap.size := World.block_lt_of_cell? _ _ ku0
                have zu_w1 := zu
                have hb0 : Below w.heap.size w w1 := (by repeat (first | with_reducible exact Below.refl _ _ | with_reducible assumption | with_reducible refine Below.setCell ?_ (by first | omega | (simp <;> omega)) _ | with_reducible refine balloc ?_ _ | with_reducible refine Below.drew ?_ | with_reducible refine bstep ?_ (by with_reducible assumption)))
                have hs_w1 := hb.size; (try simp only [World.size_alloc, World.size_setCell] at hs_w1)
                clear hb
                go_wp2_with fail
                refine Calls.mono (F1 _ (by repeat (first | with_reducible exact Below.refl _ _ | with_reducible assumption | with_reducible refine Below.setCell ?_ (by first | omega | (simp <;> omega)) _ | with_reducible refine balloc ?_ _ | with_reducible refine Below.drew ?_ | with_reducible refine bstep ?_ (by with_reducible assumption)))) ?_
                rintro e w2 ⟨rfl, hb⟩
                replace kt0 := cell_later hb kt0
                replace kt1 := cell_later hb kt1
                replace kt2 := cell_later hb kt2
                replace ku0 := cell_later hb ku0
                replace ku1 := cell_later hb ku1
                replace ku2 := cell_later hb ku2
                replace zt : w.heap.size < w2.heap.size := World.block_lt_of_cell? _ _ kt0
                have zt_w2 := zt
                replace zu : w.heap.size + 1 < w2.heap.size := World.block_lt_of_cell? _ _ ku0
                have zu_w2 := zu
                replace hb0 : Below w.heap.size w w2 := (by repeat (first | with_reducible exact Below.refl _ _ | with_reducible assumption | with_reducible refine Below.setCell ?_ (by first | omega | (simp <;> omega)) _ | with_reducible refine balloc ?_ _ | with_reducible refine Below.drew ?_ | with_reducible refine bstep ?_ (by with_reducible assumption)))
                have hs_w2 : w1.heap.size ≤ w2.heap.size := hb.size
                clear hb
                go_wp2_with fail
                refine Calls.mono (F2 _ (by repeat (first | with_reducible exact Below.refl _ _ | with_reducible assumption | with_reducible refine Below.setCell ?_ (by first | omega | (simp <;> omega)) _ | with_reducible refine balloc ?_ _ | with_reducible refine Below.drew ?_ | with_reducible refine bstep ?_ (by with_reducible assumption)))) ?_
                rintro e w3 ⟨rfl, hb⟩
                replace kt0 := cell_later hb kt0
                replace kt1 := cell_later hb kt1
                replace kt2 := cell_later hb kt2
                replace ku0 := cell_later hb ku0
                replace ku1 := cell_later hb ku1
                replace ku2 := cell_later hb ku2
                replace zt : w.heap.size < w3.heap.size := World.block_lt_of_cell? _ _ kt0
                have zt_w3 := zt
                replace zu : w.heap.size + 1 < w3.heap.size := World.block_lt_of_cell? _ _ ku0
                have zu_w3 := zu
                replace hb0 : Below w.heap.size w w3 := (by repeat (first | with_reducible exact Below.refl _ _ | with_reducible assumption | with_reducible refine Below.setCell ?_ (by first | omega | (simp <;> omega)) _ | with_reducible refine balloc ?_ _ | with_reducible refine Below.drew ?_ | with_reducible refine bstep ?_ (by with_reducible assumption)))
                have hs_w3 : w2.heap.size ≤ w3.heap.size := hb.size
                clear hb
                go_wp2_with fail
                refine Calls.mono (JO2 _ (by repeat (first | with_reducible exact Below.refl _ _ | with_reducible assumption | with_reducible refine Below.setCell ?_ (by first | omega | (simp <;> omega)) _ | with_reducible refine balloc ?_ _ | with_reducible refine Below.drew ?_ | with_reducible refine bstep ?_ (by with_reducible assumption)))) ?_
                rintro e w4 ⟨v3, rfl, hs3, hfr3, hb⟩
                replace kt0 := cell_later hb kt0
                replace kt1 := cell_later hb kt1
                replace kt2 := cell_later hb kt2
                replace ku0 := cell_later hb ku0
                replace ku1 := cell_later hb ku1
                replace ku2 := cell_later hb ku2
                replace zt : w.heap.size < w4.heap.size := World.block_lt_of_cell? _ _ kt0
                have zt_w4 := zt
                replace zu : w.heap.size + 1 < w4.heap.size := World.block_lt_of_cell? _ _ ku0
                have zu_w4 := zu
                replace hb0 : Below w.heap.size w w4 := (by repeat (first | with_reducible exact Below.refl _ _ | with_reducible assumption | with_reducible refine Below.setCell ?_ (by first | omega | (simp <;> omega)) _ | with_reducible refine balloc ?_ _ | with_reducible refine Below.drew ?_ | with_reducible refine bstep ?_ (by with_reducible assumption)))
                have hs_w4 : w3.heap.size ≤ w4.heap.size := hb.size
                clear hb
                obtain ⟨⟨pp3, cap3, rfl, _, _, _⟩, _⟩ := id hs3
                rw [HJL.out] at hs3 ⊢
                go_wp2_with fail
                refine Calls.mono (HA _ (by repeat (first | with_reducible exact Below.refl _ _ | with_reducible assumption | with_reducible refine Below.setCell ?_ (by first | omega | (simp <;> omega)) _ | with_reducible refine balloc ?_ _ | with_reducible refine Below.drew ?_ | with_reducible refine bstep ?_ (by with_reducible assumption)))) ?_
                rintro e w5 ⟨rfl, hb⟩
                have hcx : Below w4.heap.size w4 w5 := (by repeat (first | with_reducible exact Below.refl _ _ | with_reducible assumption | with_reducible refine Below.setCell ?_ (by first | omega | (simp <;> omega)) _ | with_reducible refine balloc ?_ _ | with_reducible refine Below.drew ?_ | with_reducible refine bstep ?_ (by with_reducible assumption)))
                replace hs3 := hs3.below hcx
                clear hcx
                replace kt0 := cell_later hb (cell_al _ kt0)
                replace kt1 := cell_later hb (cell_al _ kt1)
                replace kt2 := cell_later hb (cell_al _ kt2)
                replace ku0 := cell_later hb (cell_al _ ku0)
                replace ku1 := cell_later hb (cell_al _ ku1)
                replace ku2 := cell_later hb (cell_al _ ku2)
                have kj0 : w5.cell? ⟨w4.heap.size, 0, none⟩ = some (.int .i64 s) := cell_later hb (by go_simp)
                have kj1 : w5.cell? ⟨w4.heap.size, 1, none⟩ = some (.int .i64 p) := cell_later hb (by go_simp)
                have kj2 : w5.cell? ⟨w4.heap.size, 2, none⟩ = some (.slice pp3 l.length cap3) := cell_later hb (by go_simp)
                replace zt : w.heap.size < w5.heap.size := World.block_lt_of_cell? _ _ kt0
                have zt_w5 := zt
                replace zu : w.heap.size + 1 < w5.heap.size := World.block_lt_of_cell? _ _ ku0
                have zu_w5 := zu
                have zj : w4.heap.size < w5.heap.size := World.block_lt_of_cell? _ _ kj0
                have zj_w5 := zj
                replace hb0 : Below w.heap.size w w5 := (by repeat (first | with_reducible exact Below.refl _ _ | with_reducible assumption | with_reducible refine Below.setCell ?_ (by first | omega | (simp <;> omega)) _ | with_reducible refine balloc ?_ _ | with_reducible refine Below.drew ?_ | with_reducible refine bstep ?_ (by with_reducible assumption)))
                have hs_w5 := hb.size; (try simp only [World.size_alloc, World.size_setCell] at hs_w5)
                clear hb
                go_wp2_with fail
                refine Calls.mono (HB _ (by repeat (first | with_reducible exact Below.refl _ _ | with_reducible assumption | with_reducible refine Below.setCell ?_ (by first | omega | (simp <;> omega)) _ | with_reducible refine balloc ?_ _ | with_reducible refine Below.drew ?_ | with_reducible refine bstep ?_ (by with_reducible assumption)))) ?_
                rintro e w6 ⟨rfl, hb⟩
                have hcx : Below w5.heap.size w5 w6 := (by repeat (first | with_reducible exact Below.refl _ _ | with_reducible assumption | with_reducible refine Below.setCell ?_ (by first | omega | (simp <;> omega)) _ | with_reducible refine balloc ?_ _ | with_reducible refine Below.drew ?_ | with_reducible refine bstep ?_ (by with_reducible assumption)))
                replace hs3 := hs3.below hcx
                clear hcx
                replace kt0 := cell_later hb (cell_al _ kt0)
                replace kt1 := cell_later hb (cell_al _ kt1)
                replace kt2 := cell_later hb (cell_al _ kt2)
                replace ku0 := cell_later hb (cell_al _ ku0)
                replace ku1 := cell_later hb (cell_al _ ku1)
                replace ku2 := cell_later hb (cell_al _ ku2)
                replace kj0 := cell_later hb (cell_al _ kj0)
                replace kj1 := cell_later hb (cell_al _ kj1)
                replace kj2 := cell_later hb (cell_al _ kj2)
                have ka0 : w6.cell? ⟨w5.heap.size, 0, none⟩ = some (.int .i64 a1) := cell_later hb (by go_simp)
                have ka1 : w6.cell? ⟨w5.heap.size, 1, none⟩ = some (.int .i64 a2) := cell_later hb (by go_simp)
                replace zt : w.heap.size < w6.heap.size := World.block_lt_of_cell? _ _ kt0
                have zt_w6 := zt
                replace zu : w.heap.size + 1 < w6.heap.size := World.block_lt_of_cell? _ _ ku0
                have zu_w6 := zu
                replace zj : w4.heap.size < w6.heap.size := World.block_lt_of_cell? _ _ kj0
                have zj_w6 := zj
                have za : w5.heap.size < w6.heap.size := World.block_lt_of_cell? _ _ ka0
                have za_w6 := za
                replace hb0 : Below w.heap.size w w6 := (by repeat (first | with_reducible exact Below.refl _ _ | with_reducible assumption | with_reducible refine Below.setCell ?_ (by first | omega | (simp <;> omega)) _ | with_reducible refine balloc ?_ _ | with_reducible refine Below.drew ?_ | with_reducible refine bstep ?_ (by with_reducible assumption)))
                have hs_w6 := hb.size; (try simp only [World.size_alloc, World.size_setCell] at hs_w6)
                clear hb
                go_wp2_with fail
                refine Calls.mono (HJ _ _ (hs3.below (by repeat (first | with_reducible exact Below.refl _ _ | with_reducible assumption | with_reducible refine Below.setCell ?_ (by first | omega | (simp <;> omega)) _ | with_reducible refine balloc ?_ _ | with_reducible refine Below.drew ?_ | with_reducible refine bstep ?_ (by with_reducible assumption))))) ?_
                rintro e w7 ⟨rfl, hb⟩
                have hcx : Below w6.heap.size w6 w7 := (by repeat (first | with_reducible exact Below.refl _ _ | with_reducible assumption | with_reducible refine Below.setCell ?_ (by first | omega | (simp <;> omega)) _ | with_reducible refine balloc ?_ _ | with_reducible refine Below.drew ?_ | with_reducible refine bstep ?_ (by with_reducible assumption)))
                replace hs3 := hs3.below hcx
                clear hcx
                replace kt0 := cell_later hb (cell_al _ kt0)
                replace kt1 := cell_later hb (cell_al _ kt1)
                replace kt2 := cell_later hb (cell_al _ kt2)
                replace ku0 := cell_later hb (cell_al _ ku0)
                replace ku1 := cell_later hb (cell_al _ ku1)
                replace ku2 := cell_later hb (cell_al _ ku2)
                replace kj0 := cell_later hb (cell_al _ kj0)
                replace kj1 := cell_later hb (cell_al _ kj1)
                replace kj2 := cell_later hb (cell_al _ kj2)
                replace ka0 := cell_later hb (cell_al _ ka0)
                replace ka1 := cell_later hb (cell_al _ ka1)
                have kb0 : w7.cell? ⟨w6.heap.size, 0, none⟩ = some (.int .i64 b1) := cell_later hb (by go_simp)
                have kb1 : w7.cell? ⟨w6.heap.size, 1, none⟩ = some (.int .i64 b2) := cell_later hb (by go_simp)
                replace zt : w.heap.size < w7.heap.size := World.block_lt_of_cell? _ _ kt0
                have zt_w7 := zt
                replace zu : w.heap.size + 1 < w7.heap.size := World.block_lt_of_cell? _ _ ku0
                have zu_w7 := zu
                replace zj : w4.heap.size < w7.heap.size := World.block_lt_of_cell? _ _ kj0
                have zj_w7 := zj
                replace za : w5.heap.size < w7.heap.size := World.block_lt_of_cell? _ _ ka0
                have za_w7 := za
                have zb : w6.heap.size < w7.heap.size := World.block_lt_of_cell? _ _ kb0
                have zb_w7 := zb
                replace hb0 : Below w.heap.size w w7 := (by repeat (first | with_reducible exact Below.refl _ _ | with_reducible assumption | with_reducible refine Below.setCell ?_ (by first | omega | (simp <;> omega)) _ | with_reducible refine balloc ?_ _ | with_reducible refine Below.drew ?_ | with_reducible refine bstep ?_ (by with_reducible assumption)))
                have hs_w7 := hb.size; (try simp only [World.size_alloc, World.size_setCell] at hs_w7)
                clear hb
                go_wp2_with fail
                refine Calls.mono (JJ _) ?_
                rintro e w8 ⟨rfl, hb⟩
                have hcx : Below w7.heap.size w7 w8 := (by repeat (first | with_reducible exact Below.refl _ _ | with_reducible assumption | with_reducible refine Below.setCell ?_ (by first | omega | (simp <;> omega)) _ | with_reducible refine balloc ?_ _ | with_reducible refine Below.drew ?_ | with_reducible refine bstep ?_ (by with_reducible assumption)))
                replace hs3 := hs3.below hcx
                clear hcx
                replace kt0 := cell_later hb (cell_al _ kt0)
                replace kt1 := cell_later hb (cell_al _ kt1)
                replace kt2 := cell_later hb (cell_al _ kt2)
                replace ku0 := cell_later hb (cell_al _ ku0)
                replace ku1 := cell_later hb (cell_al _ ku1)
                replace ku2 := cell_later hb (cell_al _ ku2)
                replace kj0 := cell_later hb (cell_al _ kj0)
                replace kj1 := cell_later hb (cell_al _ kj1)
                replace kj2 := cell_later hb (cell_al _ kj2)
                replace ka0 := cell_later hb (cell_al _ ka0)
                replace ka1 := cell_later hb (cell_al _ ka1)
                replace kb0 := cell_later hb (cell_al _ kb0)
                replace kb1 := cell_later hb (cell_al _ kb1)
                have kc0 : w8.cell? ⟨w7.heap.size, 0, none⟩ = some (.int .i64 c1) := cell_later hb (by go_simp)
                have kc1 : w8.cell? ⟨w7.heap.size, 1, none⟩ = some (.int .i64 c2) := cell_later hb (by go_simp)
                replace zt : w.heap.size < w8.heap.size := World.block_lt_of_cell? _ _ kt0
                have zt_w8 := zt
                replace zu : w.heap.size + 1 < w8.heap.size := World.block_lt_of_cell? _ _ ku0
                have zu_w8 := zu
                replace zj : w4.heap.size < w8.heap.size := World.block_lt_of_cell? _ _ kj0
                have zj_w8 := zj
                replace za : w5.heap.size < w8.heap.size := World.block_lt_of_cell? _ _ ka0
                have za_w8 := za
                replace zb : w6.heap.size < w8.heap.size := World.block_lt_of_cell? _ _ kb0
                have zb_w8 := zb
                have zc : w7.heap.size < w8.heap.size := World.block_lt_of_cell? _ _ kc0
                have zc_w8 := zc
                replace hb0 : Below w.heap.size w w8 := (by repeat (first | with_reducible exact Below.refl _ _ | with_reducible assumption | with_reducible refine Below.setCell ?_ (by first | omega | (simp <;> omega)) _ | with_reducible refine balloc ?_ _ | with_reducible refine Below.drew ?_ | with_reducible refine bstep ?_ (by with_reducible assumption)))
                have hs_w8 := hb.size; (try simp only [World.size_alloc, World.size_setCell] at hs_w8)
                clear hb
                go_wp2_with fail
                refine Calls.mono (ME _ (by repeat (first | with_reducible exact Below.refl _ _ | with_reducible assumption | with_reducible refine Below.setCell ?_ (by first | omega | (simp <;> omega)) _ | with_reducible refine balloc ?_ _ | with_reducible refine Below.drew ?_ | with_reducible refine bstep ?_ (by with_reducible assumption)))) ?_
                rintro e w9 ⟨v4, rfl, hs4, hfr4, hb⟩
                have hcx : Below w8.heap.size w8 w9 := (by repeat (first | with_reducible exact Below.refl _ _ | with_reducible assumption | with_reducible refine Below.setCell ?_ (by first | omega | (simp <;> omega)) _ | with_reducible refine balloc ?_ _ | with_reducible refine Below.drew ?_ | with_reducible refine bstep ?_ (by with_reducible assumption)))
                replace hs3 := hs3.below hcx
                clear hcx
                replace kt0 := cell_later hb (cell_al _ kt0)
                replace kt1 := cell_later hb (cell_al _ kt1)
                replace kt2 := cell_later hb (cell_al _ kt2)
                replace ku0 := cell_later hb (cell_al _ ku0)
                replace ku1 := cell_later hb (cell_al _ ku1)
                replace ku2 := cell_later hb (cell_al _ ku2)
                replace kj0 := cell_later hb (cell_al _ kj0)
                replace kj1 := cell_later hb (cell_al _ kj1)
                replace kj2 := cell_later hb (cell_al _ kj2)
                replace ka0 := cell_later hb (cell_al _ ka0)
                replace ka1 := cell_later hb (cell_al _ ka1)
                replace kb0 := cell_later hb (cell_al _ kb0)
                replace kb1 := cell_later hb (cell_al _ kb1)
                replace kc0 := cell_later hb (cell_al _ kc0)
                replace kc1 := cell_later hb (cell_al _ kc1)
                have kd0 : w9.cell? ⟨w8.heap.size, 0, none⟩ = some (.int .i64 c1) := cell_later hb (by go_simp)
                have kd1 : w9.cell? ⟨w8.heap.size, 1, none⟩ = some (.int .i64 c2) := cell_later hb (by go_simp)
                replace zt : w.heap.size < w9.heap.size := World.block_lt_of_cell? _ _ kt0
                have zt_w9 := zt
                replace zu : w.heap.size + 1 < w9.heap.size := World.block_lt_of_cell? _ _ ku0
                have zu_w9 := zu
                replace zj : w4.heap.size < w9.heap.size := World.block_lt_of_cell? _ _ kj0
                have zj_w9 := zj
                replace za : w5.heap.size < w9.heap.size := World.block_lt_of_cell? _ _ ka0
                have za_w9 := za
                replace zb : w6.heap.size < w9.heap.size := World.block_lt_of_cell? _ _ kb0
                have zb_w9 := zb
                replace zc : w7.heap.size < w9.heap.size := World.block_lt_of_cell? _ _ kc0
                have zc_w9 := zc
                have zd : w8.heap.size < w9.heap.size := World.block_lt_of_cell? _ _ kd0
                have zd_w9 := zd
                replace hb0 : Below w.heap.size w w9 := (by repeat (first | with_reducible exact Below.refl _ _ | with_reducible assumption | with_reducible refine Below.setCell ?_ (by first | omega | (simp <;> omega)) _ | with_reducible refine balloc ?_ _ | with_reducible refine Below.drew ?_ | with_reducible refine bstep ?_ (by with_reducible assumption)))
                have hs_w9 := hb.size; (try simp only [World.size_alloc, World.size_setCell] at hs_w9)
                clear hb
                obtain ⟨⟨pp4, cap4, rfl, _, _, _⟩, _⟩ := id hs4
                generalize hl4 : (bif false then mL l l2 else []).length = n4 at *
                clear hl4
                go_wp2_with fail
                refine Calls.mono (MB _ (by repeat (first | with_reducible exact Below.refl _ _ | with_reducible assumption | with_reducible refine Below.setCell ?_ (by first | omega | (simp <;> omega)) _ | with_reducible refine balloc ?_ _ | with_reducible refine Below.drew ?_ | with_reducible refine bstep ?_ (by with_reducible assumption)))) ?_
                rintro e w10 ⟨v5, rfl, hs5, hfr5, hb⟩
                have hcx : Below w9.heap.size w9 w10 := (by repeat (first | with_reducible exact Below.refl _ _ | with_reducible assumption | with_reducible refine Below.setCell ?_ (by first | omega | (simp <;> omega)) _ | with_reducible refine balloc ?_ _ | with_reducible refine Below.drew ?_ | with_reducible refine bstep ?_ (by with_reducible assumption)))
                replace hs3 := hs3.below hcx
                replace hs4 := hs4.below hcx
                clear hcx
                replace kt0 := cell_later hb (cell_al _ kt0)
                replace kt1 := cell_later hb (cell_al _ kt1)
                replace kt2 := cell_later hb (cell_al _ kt2)
                replace ku0 := cell_later hb (cell_al _ ku0)
                replace ku1 := cell_later hb (cell_al _ ku1)
                replace ku2 := cell_later hb (cell_al _ ku2)
                replace kj0 := cell_later hb (cell_al _ kj0)
                replace kj1 := cell_later hb (cell_al _ kj1)
                replace kj2 := cell_later hb (cell_al _ kj2)
                replace ka0 := cell_later hb (cell_al _ ka0)
                replace ka1 := cell_later hb (cell_al _ ka1)
                replace kb0 := cell_later hb (cell_al _ kb0)
                replace kb1 := cell_later hb (cell_al _ kb1)
                replace kc0 := cell_later hb (cell_al _ kc0)
                replace kc1 := cell_later hb (cell_al _ kc1)
                replace kd0 := cell_later hb (cell_al _ kd0)
                replace kd1 := cell_later hb (cell_al _ kd1)
                have km0 : w10.cell? ⟨w9.heap.size, 0, none⟩ = some (.int .i64 (selI false s)) := cell_later hb (by go_simp)
                have km1 : w10.cell? ⟨w9.heap.size, 1, none⟩ = some (.int .i64 (selI false p)) := cell_later hb (by go_simp)
                have km2 : w10.cell? ⟨w9.heap.size, 2, none⟩ = some (.slice pp4 n4 cap4) := cell_later hb (by go_simp)
                replace zt : w.heap.size < w10.heap.size := World.block_lt_of_cell? _ _ kt0
                have zt_w10 := zt
                replace zu : w.heap.size + 1 < w10.heap.size := World.block_lt_of_cell? _ _ ku0
                have zu_w10 := zu
                replace zj : w4.heap.size < w10.heap.size := World.block_lt_of_cell? _ _ kj0
                have zj_w10 := zj
                replace za : w5.heap.size < w10.heap.size := World.block_lt_of_cell? _ _ ka0
                have za_w10 := za
                replace zb : w6.heap.size < w10.heap.size := World.block_lt_of_cell? _ _ kb0
                have zb_w10 := zb
                replace zc : w7.heap.size < w10.heap.size := World.block_lt_of_cell? _ _ kc0
                have zc_w10 := zc
                replace zd : w8.heap.size < w10.heap.size := World.block_lt_of_cell? _ _ kd0
                have zd_w10 := zd
                have zm : w9.heap.size < w10.heap.size := World.block_lt_of_cell? _ _ km0
                have zm_w10 := zm
                replace hb0 : Below w.heap.size w w10 := (by repeat (first | with_reducible exact Below.refl _ _ | with_reducible assumption | with_reducible refine Below.setCell ?_ (by first | omega | (simp <;> omega)) _ | with_reducible refine balloc ?_ _ | with_reducible refine Below.drew ?_ | with_reducible refine bstep ?_ (by with_reducible assumption)))
                have hs_w10 := hb.size; (try simp only [World.size_alloc, World.size_setCell] at hs_w10)
                clear hb
                obtain ⟨⟨pp5, cap5, rfl, _, _, _⟩, _⟩ := id hs5
                go_wp2
                go_ret
                exact ⟨rfl, (by repeat (first | with_reducible exact Below.refl _ _ | with_reducible assumption | with_reducible refine Below.setCell ?_ (by first | omega | (simp <;> omega)) _ | with_reducible refine balloc ?_ _ | with_reducible refine Below.drew ?_ | with_reducible refine bstep ?_ (by with_reducible assumption)))⟩
              · by_cases hcn : c1 < need
                · go_enter Try.func8, Try.ntmps8
                  go_wp2_with fail
                  refine Calls.mono (head_c _) ?_
                  rintro e w1 ⟨rfl, hb⟩
                  have kt0 : w1.cell? ⟨w.heap.size, 0, none⟩ = some (.int .i64 s) := cell_later hb (by go_simp)
                  have kt1 : w1.cell? ⟨w.heap.size, 1, none⟩ = some (.int .i64 p) := cell_later hb (by go_simp)
                  have kt2 : w1.cell? ⟨w.heap.size, 2, none⟩ = some (.slice pp l.length cap) := cell_later hb (by go_simp)
                  have ku0 : w1.cell? ⟨w.heap.size + 1, 0, none⟩ = some (.int .i64 s) := cell_later hb (by go_simp)
                  have ku1 : w1.cell? ⟨w.heap.size + 1, 1, none⟩ = some (.int .i64 p) := cell_later hb (by go_simp)
                  have ku2 : w1.cell? ⟨w.heap.size + 1, 2, none⟩ = some (.slice pp2 l2.length cap2) := cell_later hb (by go_simp)
                  have zt : w.heap.size < w1.heap.size := World.block_lt_of_cell? _ _ kt0
                  have zt_w1 := zt
                  have zu : w.heap.size + 1 < w1.heap.size := World.block_lt_of_cell? _ _ ku0
                  have zu_w1 := zu
                  have hb0 : Below w.heap.size w w1 := (by repeat (first | with_reducible exact Below.refl _ _ | with_reducible assumption | with_reducible refine Below.setCell ?_ (by first | omega | (simp <;> omega)) _ | with_reducible refine balloc ?_ _ | with_reducible refine Below.drew ?_ | with_reducible refine bstep ?_ (by with_reducible assumption)))
                  have hs_w1 := hb.size; (try simp only [World.size_alloc, World.size_setCell] at hs_w1)
                  clear hb
                  go_wp2_with fail
                  refine Calls.mono (F1 _ (by repeat (first | with_reducible exact Below.refl _ _ | with_reducible assumption | with_reducible refine Below.setCell ?_ (by first | omega | (simp <;> omega)) _ | with_reducible refine balloc ?_ _ | with_reducible refine Below.drew ?_ | with_reducible refine bstep ?_ (by with_reducible assumption)))) ?_
                  rintro e w2 ⟨rfl, hb⟩
                  replace kt0 := cell_later hb kt0
                  replace kt1 := cell_later hb kt1
                  replace kt2 := cell_later hb kt2
                  replace ku0 := cell_later hb ku0
                  replace ku1 := cell_later hb ku1
                  replace ku2 := cell_later hb ku2
                  replace zt : w.heap.size < w2.heap.size := World.block_lt_of_cell? _ _ kt0
                  have zt_w2 := zt
                  replace zu : w.heap.size + 1 < w2.heap.size := World.block_lt_of_cell? _ _ ku0
                  have zu_w2 := zu
                  replace hb0 : Below w.heap.size w w2 := (by repeat (first | with_reducible exact Below.refl _ _ | with_reducible assumption | with_reducible refine Below.setCell ?_ (by first | omega | (simp <;> omega)) _ | with_reducible refine balloc ?_ _ | with_reducible refine Below.drew ?_ | with_reducible refine bstep ?_ (by with_reducible assumption)))
                  have hs_w2 : w1.heap.size ≤ w2.heap.size := hb.size
                  clear hb
                  go_wp2_with fail
                  refine Calls.mono (F2 _ (by repeat (first | with_reducible exact Below.refl _ _ | with_reducible assumption | with_reducible refine Below.setCell ?_ (by first | omega | (simp <;> omega)) _ | with_reducible refine balloc ?_ _ | with_reducible refine Below.drew ?_ | with_reducible refine bstep ?_ (by with_reducible assumption)))) ?_
                  rintro e w3 ⟨rfl, hb⟩
                  replace kt0 := cell_later hb kt0
                  replace kt1 := cell_later hb kt1
                  replace kt2 := cell_later hb kt2
                  replace ku0 := cell_later hb ku0
                  replace ku1 := cell_later hb ku1
                  replace ku2 := cell_later hb ku2
                  replace zt : w.heap.size < w3.heap.size := World.block_lt_of_cell? _ _ kt0
                  have zt_w3 := zt
                  replace zu : w.heap.size + 1 < w3.heap.size := World.block_lt_of_cell? _ _ ku0
                  have zu_w3 := zu
                  replace hb0 : Below w.heap.size w w3 := (by repeat (first | with_reducible exact Below.refl _ _ | with_reducible assumption | with_reducible refine Below.setCell ?_ (by first | omega | (simp <;> omega)) _ | with_reducible refine balloc ?_ _ | with_reducible refine Below.drew ?_ | with_reducible refine bstep ?_ (by with_reducible assumption)))
                  have hs_w3 : w2.heap.size ≤ w3.heap.size := hb.size
                  clear hb
                  go_wp2_with fail
                  refine Calls.mono (JO2 _ (by repeat (first | with_reducible exact Below.refl _ _ | with_reducible assumption | with_reducible refine Below.setCell ?_ (by first | omega | (simp <;> omega)) _ | with_reducible refine balloc ?_ _ | with_reducible refine Below.drew ?_ | with_reducible refine bstep ?_ (by with_reducible assumption)))) ?_
                  rintro e w4 ⟨v3, rfl, hs3, hfr3, hb⟩
                  replace kt0 := cell_later hb kt0
                  replace kt1 := cell_later hb kt1
                  replace kt2 := cell_later hb kt2
                  replace ku0 := cell_later hb ku0
                  replace ku1 := cell_later hb ku1
                  replace ku2 := cell_later hb ku2
                  replace zt : w.heap.size < w4.heap.size := World.block_lt_of_cell? _ _ kt0
                  have zt_w4 := zt
                  replace zu : w.heap.size + 1 < w4.heap.size := World.block_lt_of_cell? _ _ ku0
                  have zu_w4 := zu
                  replace hb0 : Below w.heap.size w w4 := (by repeat (first | with_reducible exact Below.refl _ _ | with_reducible assumption | with_reducible refine Below.setCell ?_ (by first | omega | (simp <;> omega)) _ | with_reducible refine balloc ?_ _ | with_reducible refine Below.drew ?_ | with_reducible refine bstep ?_ (by with_reducible assumption)))
                  have hs_w4 : w3.heap.size ≤ w4.heap.size := hb.size
                  clear hb
                  obtain ⟨⟨pp3, cap3, rfl, _, _, _⟩, _⟩ := id hs3
                  rw [HJL.out] at hs3 ⊢
                  go_wp2_with fail
                  refine Calls.mono (HA _ (by repeat (first | with_reducible exact Below.refl _ _ | with_reducible assumption | with_reducible refine Below.setCell ?_ (by first | omega | (simp <;> omega)) _ | with_reducible refine balloc ?_ _ | with_reducible refine Below.drew ?_ | with_reducible refine bstep ?_ (by with_reducible assumption)))) ?_
                  rintro e w5 ⟨rfl, hb⟩
                  have hcx : Below w4.heap.size w4 w5 := (by repeat (first | with_reducible exact Below.refl _ _ | with_reducible assumption | with_reducible refine Below.setCell ?_ (by first | omega | (simp <;> omega)) _ | with_reducible refine balloc ?_ _ | with_reducible refine Below.drew ?_ | with_reducible refine bstep ?_ (by with_reducible assumption)))
                  replace hs3 := hs3.below hcx
                  clear hcx
                  replace kt0 := cell_later hb (cell_al _ kt0)
                  replace kt1 := cell_later hb (cell_al _ kt1)
                  replace kt2 := cell_later hb (cell_al _ kt2)
                  replace ku0 := cell_later hb (cell_al _ ku0)
                  replace ku1 := cell_later hb (cell_al _ ku1)
                  replace ku2 := cell_later hb (cell_al _ ku2)
                  have kj0 : w5.cell? ⟨w4.heap.size, 0, none⟩ = some (.int .i64 s) := cell_later hb (by go_simp)
                  have kj1 : w5.cell? ⟨w4.heap.size, 1, none⟩ = some (.int .i64 p) := cell_later hb (by go_simp)
                  have kj2 : w5.cell? ⟨w4.heap.size, 2, none⟩ = some (.slice pp3 l.length cap3) := cell_later hb (by go_simp)
                  replace zt : w.heap.size < w5.heap.size := World.block_lt_of_cell? _ _ kt0
                  have zt_w5 := zt
                  replace zu : w.heap.size + 1 < w5.heap.size := World.block_lt_of_cell? _ _ ku0
                  have zu_w5 := zu
                  have zj : w4.heap.size < w5.heap.size := World.block_lt_of_cell? _ _ kj0
                  have zj_w5 := zj
                  replace hb0 : Below w.heap.size w w5 := (by repeat (first | with_reducible exact Below.refl _ _ | with_reducible assumption | with_reducible refine Below.setCell ?_ (by first | omega | (simp <;> omega)) _ | with_reducible refine balloc ?_ _ | with_reducible refine Below.drew ?_ | with_reducible refine bstep ?_ (by with_reducible assumption)))
                  have hs_w5 := hb.size; (try simp only [World.size_alloc, World.size_setCell] at hs_w5)
                  clear hb
                  go_wp2_with fail
                  refine Calls.mono (HB _ (by repeat (first | with_reducible exact Below.refl _ _ | with_reducible assumption | with_reducible refine Below.setCell ?_ (by first | omega | (simp <;> omega)) _ | with_reducible refine balloc ?_ _ | with_reducible refine Below.drew ?_ | with_reducible refine bstep ?_ (by with_reducible assumption)))) ?_
                  rintro e w6 ⟨rfl, hb⟩
                  have hcx : Below w5.heap.size w5 w6 := (by repeat (first | with_reducible exact Below.refl _ _ | with_reducible assumption | with_reducible refine Below.setCell ?_ (by first | omega | (simp <;> omega)) _ | with_reducible refine balloc ?_ _ | with_reducible refine Below.drew ?_ | with_reducible refine bstep ?_ (by with_reducible assumption)))
                  replace hs3 := hs3.below hcx
                  clear hcx
                  replace kt0 := cell_later hb (cell_al _ kt0)
                  replace kt1 := cell_later hb (cell_al _ kt1)
                  replace kt2 := cell_later hb (cell_al _ kt2)
                  replace ku0 := cell_later hb (cell_al _ ku0)
                  replace ku1 := cell_later hb (cell_al _ ku1)
                  replace ku2 := cell_later hb (cell_al _ ku2)
                  replace kj0 := cell_later hb (cell_al _ kj0)
                  replace kj1 := cell_later hb (cell_al _ kj1)
                  replace kj2 := cell_later hb (cell_al _ kj2)
                  have ka0 : w6.cell? ⟨w5.heap.size, 0, none⟩ = some (.int .i64 a1) := cell_later hb (by go_simp)
                  have ka1 : w6.cell? ⟨w5.heap.size, 1, none⟩ = some (.int .i64 a2) := cell_later hb (by go_simp)
                  replace zt : w.heap.size < w6.heap.size := World.block_lt_of_cell? _ _ kt0
                  have zt_w6 := zt
                  replace zu : w.heap.size + 1 < w6.heap.size := World.block_lt_of_cell? _ _ ku0
                  have zu_w6 := zu
                  replace zj : w4.heap.size < w6.heap.size := World.block_lt_of_cell? _ _ kj0
                  have zj_w6 := zj
                  have za : w5.heap.size < w6.heap.size := World.block_lt_of_cell? _ _ ka0
                  have za_w6 := za
                  replace hb0 : Below w.heap.size w w6 := (by repeat (first | with_reducible exact Below.refl _ _ | with_reducible assumption | with_reducible refine Below.setCell ?_ (by first | omega | (simp <;> omega)) _ | with_reducible refine balloc ?_ _ | with_reducible refine Below.drew ?_ | with_reducible refine bstep ?_ (by with_reducible assumption)))
                  have hs_w6 := hb.size; (try simp only [World.size_alloc, World.size_setCell] at hs_w6)
                  clear hb
                  go_wp2_with fail
                  refine Calls.mono (HJ _ _ (hs3.below (by repeat (first | with_reducible exact Below.refl _ _ | with_reducible assumption | with_reducible refine Below.setCell ?_ (by first | omega | (simp <;> omega)) _ | with_reducible refine balloc ?_ _ | with_reducible refine Below.drew ?_ | with_reducible refine bstep ?_ (by with_reducible assumption))))) ?_
                  rintro e w7 ⟨rfl, hb⟩
                  have hcx : Below w6.heap.size w6 w7 := (by repeat (first | with_reducible exact Below.refl _ _ | with_reducible assumption | with_reducible refine Below.setCell ?_ (by first | omega | (simp <;> omega)) _ | with_reducible refine balloc ?_ _ | with_reducible refine Below.drew ?_ | with_reducible refine bstep ?_ (by with_reducible assumption)))
                  replace hs3 := hs3.below hcx
                  clear hcx
                  replace kt0 := cell_later hb (cell_al _ kt0)
                  replace kt1 := cell_later hb (cell_al _ kt1)
                  replace kt2 := cell_later hb (cell_al _ kt2)
                  replace ku0 := cell_later hb (cell_al _ ku0)
                  replace ku1 := cell_later hb (cell_al _ ku1)
                  replace ku2 := cell_later hb (cell_al _ ku2)
                  replace kj0 := cell_later hb (cell_al _ kj0)
                  replace kj1 := cell_later hb (cell_al _ kj1)
                  replace kj2 := cell_later hb (cell_al _ kj2)
                  replace ka0 := cell_later hb (cell_al _ ka0)
                  replace ka1 := cell_later hb (cell_al _ ka1)
                  have kb0 : w7.cell? ⟨w6.heap.size, 0, none⟩ = some (.int .i64 b1) := cell_later hb (by go_simp)
                  have kb1 : w7.cell? ⟨w6.heap.size, 1, none⟩ = some (.int .i64 b2) := cell_later hb (by go_simp)
                  replace zt : w.heap.size < w7.heap.size := World.block_lt_of_cell? _ _ kt0
                  have zt_w7 := zt
                  replace zu : w.heap.size + 1 < w7.heap.size := World.block_lt_of_cell? _ _ ku0
                  have zu_w7 := zu
                  replace zj : w4.heap.size < w7.heap.size := World.block_lt_of_cell? _ _ kj0
                  have zj_w7 := zj
                  replace za : w5.heap.size < w7.heap.size := World.block_lt_of_cell? _ _ ka0
                  have za_w7 := za
                  have zb : w6.heap.size < w7.heap.size := World.block_lt_of_cell? _ _ kb0
                  have zb_w7 := zb
                  replace hb0 : Below w.heap.size w w7 := (by repeat (first | with_reducible exact Below.refl _ _ | with_reducible assumption | with_reducible refine Below.setCell ?_ (by first | omega | (simp <;> omega)) _ | with_reducible refine balloc ?_ _ | with_reducible refine Below.drew ?_ | with_reducible refine bstep ?_ (by with_reducible assumption)))
                  have hs_w7 := hb.size; (try simp only [World.size_alloc, World.size_setCell] at hs_w7)
                  clear hb
                  go_wp2_with fail
                  refine Calls.mono (JJ _) ?_
                  rintro e w8 ⟨rfl, hb⟩
                  have hcx : Below w7.heap.size w7 w8 := (by repeat (first | with_reducible exact Below.refl _ _ | with_reducible assumption | with_reducible refine Below.setCell ?_ (by first | omega | (simp <;> omega)) _ | with_reducible refine balloc ?_ _ | with_reducible refine Below.drew ?_ | with_reducible refine bstep ?_ (by with_reducible assumption)))
                  replace hs3 := hs3.below hcx
                  clear hcx
                  replace kt0 := cell_later hb (cell_al _ kt0)
                  replace kt1 := cell_later hb (cell_al _ kt1)
                  replace kt2 := cell_later hb (cell_al _ kt2)
                  replace ku0 := cell_later hb (cell_al _ ku0)
                  replace ku1 := cell_later hb (cell_al _ ku1)
                  replace ku2 := cell_later hb (cell_al _ ku2)
                  replace kj0 := cell_later hb (cell_al _ kj0)
                  replace kj1 := cell_later hb (cell_al _ kj1)
                  replace kj2 := cell_later hb (cell_al _ kj2)
                  replace ka0 := cell_later hb (cell_al _ ka0)
                  replace ka1 := cell_later hb (cell_al _ ka1)
                  replace kb0 := cell_later hb (cell_al _ kb0)
                  replace kb1 := cell_later hb (cell_al _ kb1)
                  have kc0 : w8.cell? ⟨w7.heap.size, 0, none⟩ = some (.int .i64 c1) := cell_later hb (by go_simp)
                  have kc1 : w8.cell? ⟨w7.heap.size, 1, none⟩ = some (.int .i64 c2) := cell_later hb (by go_simp)
                  replace zt : w.heap.size < w8.heap.size := World.block_lt_of_cell? _ _ kt0
                  have zt_w8 := zt
                  replace zu : w.heap.size + 1 < w8.heap.size := World.block_lt_of_cell? _ _ ku0
                  have zu_w8 := zu
                  replace zj : w4.heap.size < w8.heap.size := World.block_lt_of_cell? _ _ kj0
                  have zj_w8 := zj
                  replace za : w5.heap.size < w8.heap.size := World.block_lt_of_cell? _ _ ka0
                  have za_w8 := za
                  replace zb : w6.heap.size < w8.heap.size := World.block_lt_of_cell? _ _ kb0
                  have zb_w8 := zb
                  have zc : w7.heap.size < w8.heap.size := World.block_lt_of_cell? _ _ kc0
                  have zc_w8 := zc
                  replace hb0 : Below w.heap.size w w8 := (by repeat (first | with_reducible exact Below.refl _ _ | with_reducible assumption | with_reducible refine Below.setCell ?_ (by first | omega | (simp <;> omega)) _ | with_reducible refine balloc ?_ _ | with_reducible refine Below.drew ?_ | with_reducible refine bstep ?_ (by with_reducible assumption)))
                  have hs_w8 := hb.size; (try simp only [World.size_alloc, World.size_setCell] at hs_w8)
                  clear hb
                  go_wp2_with fail
                  refine Calls.mono (ME _ (by repeat (first | with_reducible exact Below.refl _ _ | with_reducible assumption | with_reducible refine Below.setCell ?_ (by first | omega | (simp <;> omega)) _ | with_reducible refine balloc ?_ _ | with_reducible refine Below.drew ?_ | with_reducible refine bstep ?_ (by with_reducible assumption)))) ?_
                  rintro e w9 ⟨v4, rfl, hs4, hfr4, hb⟩
                  have hcx : Below w8.heap.size w8 w9 := (by repeat (first | with_reducible exact Below.refl _ _ | with_reducible assumption | with_reducible refine Below.setCell ?_ (by first | omega | (simp <;> omega)) _ | with_reducible refine balloc ?_ _ | with_reducible refine Below.drew ?_ | with_reducible refine bstep ?_ (by with_reducible assumption)))
                  replace hs3 := hs3.below hcx
                  clear hcx
                  replace kt0 := cell_later hb (cell_al _ kt0)
                  replace kt1 := cell_later hb (cell_al _ kt1)
                  replace kt2 := cell_later hb (cell_al _ kt2)
                  replace ku0 := cell_later hb (cell_al _ ku0)
                  replace ku1 := cell_later hb (cell_al _ ku1)
                  replace ku2 := cell_later hb (cell_al _ ku2)
                  replace kj0 := cell_later hb (cell_al _ kj0)
                  replace kj1 := cell_later hb (cell_al _ kj1)
                  replace kj2 := cell_later hb (cell_al _ kj2)
                  replace ka0 := cell_later hb (cell_al _ ka0)
                  replace ka1 := cell_later hb (cell_al _ ka1)
                  replace kb0 := cell_later hb (cell_al _ kb0)
                  replace kb1 := cell_later hb (cell_al _ kb1)
                  replace kc0 := cell_later hb (cell_al _ kc0)
                  replace kc1 := cell_later hb (cell_al _ kc1)
                  have kd0 : w9.cell? ⟨w8.heap.size, 0, none⟩ = some (.int .i64 c1) := cell_later hb (by go_simp)
                  have kd1 : w9.cell? ⟨w8.heap.size, 1, none⟩ = some (.int .i64 c2) := cell_later hb (by go_simp)
                  replace zt : w.heap.size < w9.heap.size := World.block_lt_of_cell? _ _ kt0
                  have zt_w9 := zt
                  replace zu : w.heap.size + 1 < w9.heap.size := World.block_lt_of_cell? _ _ ku0
                  have zu_w9 := zu
                  replace zj : w4.heap.size < w9.heap.size := World.block_lt_of_cell? _ _ kj0
                  have zj_w9 := zj
                  replace za : w5.heap.size < w9.heap.size := World.block_lt_of_cell? _ _ ka0
                  have za_w9 := za
                  replace zb : w6.heap.size < w9.heap.size := World.block_lt_of_cell? _ _ kb0
                  have zb_w9 := zb
                  replace zc : w7.heap.size < w9.heap.size := World.block_lt_of_cell? _ _ kc0
                  have zc_w9 := zc
                  have zd : w8.heap.size < w9.heap.size := World.block_lt_of_cell? _ _ kd0
                  have zd_w9 := zd
                  replace hb0 : Below w.heap.size w w9 := (by repeat (first | with_reducible exact Below.refl _ _ | with_reducible assumption | with_reducible refine Below.setCell ?_ (by first | omega | (simp <;> omega)) _ | with_reducible refine balloc ?_ _ | with_reducible refine Below.drew ?_ | with_reducible refine bstep ?_ (by with_reducible assumption)))
                  have hs_w9 := hb.size; (try simp only [World.size_alloc, World.size_setCell] at hs_w9)
                  clear hb
                  obtain ⟨⟨pp4, cap4, rfl, _, _, _⟩, _⟩ := id hs4
                  generalize hl4 : (bif false then mL l l2 else []).length = n4 at *
                  clear hl4
                  go_wp2_with fail
                  refine Calls.mono (MB _ (by repeat (first | with_reducible exact Below.refl _ _ | with_reducible assumption | with_reducible refine Below.setCell ?_ (by first | omega | (simp <;> omega)) _ | with_reducible refine balloc ?_ _ | with_reducible refine Below.drew ?_ | with_reducible refine bstep ?_ (by with_reducible assumption)))) ?_
                  rintro e w10 ⟨v5, rfl, hs5, hfr5, hb⟩
                  have hcx : Below w9.heap.size w9 w10 := (by repeat (first | with_reducible exact Below.refl _ _ | with_reducible assumption | with_reducible refine Below.setCell ?_ (by first | omega | (simp <;> omega)) _ | with_reducible refine balloc ?_ _ | with_reducible refine Below.drew ?_ | with_reducible refine bstep ?_ (by with_reducible assumption)))
                  replace hs3 := hs3.below hcx
                  replace hs4 := hs4.below hcx
                  clear hcx
                  replace kt0 := cell_later hb (cell_al _ kt0)
                  replace kt1 := cell_later hb (cell_al _ kt1)
                  replace kt2 := cell_later hb (cell_al _ kt2)
                  replace ku0 := cell_later hb (cell_al _ ku0)
                  replace ku1 := cell_later hb (cell_al _ ku1)
                  replace ku2 := cell_later hb (cell_al _ ku2)
                  replace kj0 := cell_later hb (cell_al _ kj0)
                  replace kj1 := cell_later hb (cell_al _ kj1)
                  replace kj2 := cell_later hb (cell_al _ kj2)
                  replace ka0 := cell_later hb (cell_al _ ka0)
                  replace ka1 := cell_later hb (cell_al _ ka1)
                  replace kb0 := cell_later hb (cell_al _ kb0)
                  replace kb1 := cell_later hb (cell_al _ kb1)
                  replace kc0 := cell_later hb (cell_al _ kc0)
                  replace kc1 := cell_later hb (cell_al _ kc1)
                  replace kd0 := cell_later hb (cell_al _ kd0)
                  replace kd1 := cell_later hb (cell_al _ kd1)
                  have km0 : w10.cell? ⟨w9.heap.size, 0, none⟩ = some (.int .i64 (selI false s)) := cell_later hb (by go_simp)
                  have km1 : w10.cell? ⟨w9.heap.size, 1, none⟩ = some (.int .i64 (selI false p)) := cell_later hb (by go_simp)
                  have km2 : w10.cell? ⟨w9.heap.size, 2, none⟩ = some (.slice pp4 n4 cap4) := cell_later hb (by go_simp)
                  replace zt : w.heap.size < w10.heap.size := World.block_lt_of_cell? _ _ kt0
                  have zt_w10 := zt
                  replace zu : w.heap.size + 1 < w10.heap.size := World.block_lt_of_cell? _ _ ku0
                  have zu_w10 := zu
                  replace zj : w4.heap.size < w10.heap.size := World.block_lt_of_cell? _ _ kj0
                  have zj_w10 := zj
                  replace za : w5.heap.size < w10.heap.size := World.block_lt_of_cell? _ _ ka0
                  have za_w10 := za
                  replace zb : w6.heap.size < w10.heap.size := World.block_lt_of_cell? _ _ kb0
                  have zb_w10 := zb
                  replace zc : w7.heap.size < w10.heap.size := World.block_lt_of_cell? _ _ kc0
                  have zc_w10 := zc
                  replace zd : w8.heap.size < w10.heap.size := World.block_lt_of_cell? _ _ kd0
                  have zd_w10 := zd
                  have zm : w9.heap.size < w10.heap.size := World.block_lt_of_cell? _ _ km0
                  have zm_w10 := zm
                  replace hb0 : Below w.heap.size w w10 := (by repeat (first | with_reducible exact Below.refl _ _ | with_reducible assumption | with_reducible refine Below.setCell ?_ (by first | omega | (simp <;> omega)) _ | with_reducible refine balloc ?_ _ | with_reducible refine Below.drew ?_ | with_reducible refine bstep ?_ (by with_reducible assumption)))
                  have hs_w10 := hb.size; (try simp only [World.size_alloc, World.size_setCell] at hs_w10)
                  clear hb
                  obtain ⟨⟨pp5, cap5, rfl, _, _, _⟩, _⟩ := id hs5
                  go_wp2
                  go_ret
                  exact ⟨rfl, (by repeat (first | with_reducible exact Below.refl _ _ | with_reducible assumption | with_reducible refine Below.setCell ?_ (by first | omega | (simp <;> omega)) _ | with_reducible refine balloc ?_ _ | with_reducible refine Below.drew ?_ | with_reducible refine bstep ?_ (by with_reducible assumption)))⟩
                · go_enter Try.func8, Try.ntmps8
                  go_wp2_with fail
                  refine Calls.mono (head_c _) ?_
                  rintro e w1 ⟨rfl, hb⟩
                  have kt0 : w1.cell? ⟨w.heap.size, 0, none⟩ = some (.int .i64 s) := cell_later hb (by go_simp)
                  have kt1 : w1.cell? ⟨w.heap.size, 1, none⟩ = some (.int .i64 p) := cell_later hb (by go_simp)
                  have kt2 : w1.cell? ⟨w.heap.size, 2, none⟩ = some (.slice pp l.length cap) := cell_later hb (by go_simp)
                  have ku0 : w1.cell? ⟨w.heap.size + 1, 0, none⟩ = some (.int .i64 s) := cell_later hb (by go_simp)
                  have ku1 : w1.cell? ⟨w.heap.size + 1, 1, none⟩ = some (.int .i64 p) := cell_later hb (by go_simp)
                  have ku2 : w1.cell? ⟨w.heap.size + 1, 2, none⟩ = some (.slice pp2 l2.length cap2) := cell_later hb (by go_simp)
                  have zt : w.heap.size < w1.heap.size := World.block_lt_of_cell? _ _ kt0
                  have zt_w1 := zt
                  have zu : w.heap.size + 1 < w1.heap.size := World.block_lt_of_cell? _ _ ku0
                  have zu_w1 := zu
                  have hb0 : Below w.heap.size w w1 := (by repeat (first | with_reducible exact Below.refl _ _ | with_reducible assumption | with_reducible refine Below.setCell ?_ (by first | omega | (simp <;> omega)) _ | with_reducible refine balloc ?_ _ | with_reducible refine Below.drew ?_ | with_reducible refine bstep ?_ (by with_reducible assumption)))
                  have hs_w1 := hb.size; (try simp only [World.size_alloc, World.size_setCell] at hs_w1)
                  clear hb
                  go_wp2_with fail
                  refine Calls.mono (F1 _ (by repeat (first | with_reducible exact Below.refl _ _ | with_reducible assumption | with_reducible refine Below.setCell ?_ (by first | omega | (simp <;> omega)) _ | with_reducible refine balloc ?_ _ | with_reducible refine Below.drew ?_ | with_reducible refine bstep ?_ (by with_reducible assumption)))) ?_
                  rintro e w2 ⟨rfl, hb⟩
                  replace kt0 := cell_later hb kt0
                  replace kt1 := cell_later hb kt1
                  replace kt2 := cell_later hb kt2
                  replace ku0 := cell_later hb ku0
                  replace ku1 := cell_later hb ku1
                  replace ku2 := cell_later hb ku2
                  replace zt : w.heap.size < w2.heap.size := World.block_lt_of_cell? _ _ kt0
                  have zt_w2 := zt
                  replace zu : w.heap.size + 1 < w2.heap.size := World.block_lt_of_cell? _ _ ku0
                  have zu_w2 := zu
                  replace hb0 : Below w.heap.size w w2 := (by repeat (first | with_reducible exact Below.refl _ _ | with_reducible assumption | with_reducible refine Below.setCell ?_ (by first | omega | (simp <;> omega)) _ | with_reducible refine balloc ?_ _ | with_reducible refine Below.drew ?_ | with_reducible refine bstep ?_ (by with_reducible assumption)))
                  have hs_w2 : w1.heap.size ≤ w2.heap.size := hb.size
                  clear hb
                  go_wp2_with fail
                  refine Calls.mono (F2 _ (by repeat (first | with_reducible exact Below.refl _ _ | with_reducible assumption | with_reducible refine Below.setCell ?_ (by first | omega | (simp <;> omega)) _ | with_reducible refine balloc ?_ _ | with_reducible refine Below.drew ?_ | with_reducible refine bstep ?_ (by with_reducible assumption)))) ?_
                  rintro e w3 ⟨rfl, hb⟩
                  replace kt0 := cell_later hb kt0
                  replace kt1 := cell_later hb kt1
                  replace kt2 := cell_later hb kt2
                  replace ku0 := cell_later hb ku0
                  replace ku1 := cell_later hb ku1
                  replace ku2 := cell_later hb ku2
                  replace zt : w.heap.size < w3.heap.size := World.block_lt_of_cell? _ _ kt0
                  have zt_w3 := zt
                  replace zu : w.heap.size + 1 < w3.heap.size := World.block_lt_of_cell? _ _ ku0
                  have zu_w3 := zu
                  replace hb0 : Below w.heap.size w w3 := (by repeat (first | with_reducible exact Below.refl _ _ | with_reducible assumption | with_reducible refine Below.setCell ?_ (by first | omega | (simp <;> omega)) _ | with_reducible refine balloc ?_ _ | with_reducible refine Below.drew ?_ | with_reducible refine bstep ?_ (by with_reducible assumption)))
                  have hs_w3 : w2.heap.size ≤ w3.heap.size := hb.size
                  clear hb
                  go_wp2_with fail
                  refine Calls.mono (JO2 _ (by repeat (first | with_reducible exact Below.refl _ _ | with_reducible assumption | with_reducible refine Below.setCell ?_ (by first | omega | (simp <;> omega)) _ | with_reducible refine balloc ?_ _ | with_reducible refine Below.drew ?_ | with_reducible refine bstep ?_ (by with_reducible assumption)))) ?_
                  rintro e w4 ⟨v3, rfl, hs3, hfr3, hb⟩
                  replace kt0 := cell_later hb kt0
                  replace kt1 := cell_later hb kt1
                  replace kt2 := cell_later hb kt2
                  replace ku0 := cell_later hb ku0
                  replace ku1 := cell_later hb ku1
                  replace ku2 := cell_later hb ku2
                  replace zt : w.heap.size < w4.heap.size := World.block_lt_of_cell? _ _ kt0
                  have zt_w4 := zt
                  replace zu : w.heap.size + 1 < w4.heap.size := World.block_lt_of_cell? _ _ ku0
                  have zu_w4 := zu
                  replace hb0 : Below w.heap.size w w4 := (by repeat (first | with_reducible exact Below.refl _ _ | with_reducible assumption | with_reducible refine Below.setCell ?_ (by first | omega | (simp <;> omega)) _ | with_reducible refine balloc ?_ _ | with_reducible refine Below.drew ?_ | with_reducible refine bstep ?_ (by with_reducible assumption)))
                  have hs_w4 : w3.heap.size ≤ w4.heap.size := hb.size
                  clear hb
                  obtain ⟨⟨pp3, cap3, rfl, _, _, _⟩, _⟩ := id hs3
                  rw [HJL.out] at hs3 ⊢
                  go_wp2_with fail
                  refine Calls.mono (HA _ (by repeat (first | with_reducible exact Below.refl _ _ | with_reducible assumption | with_reducible refine Below.setCell ?_ (by first | omega | (simp <;> omega)) _ | with_reducible refine balloc ?_ _ | with_reducible refine Below.drew ?_ | with_reducible refine bstep ?_ (by with_reducible assumption)))) ?_
                  rintro e w5 ⟨rfl, hb⟩
                  have hcx : Below w4.heap.size w4 w5 := (by repeat (first | with_reducible exact Below.refl _ _ | with_reducible assumption | with_reducible refine Below.setCell ?_ (by first | omega | (simp <;> omega)) _ | with_reducible refine balloc ?_ _ | with_reducible refine Below.drew ?_ | with_reducible refine bstep ?_ (by with_reducible assumption)))
                  replace hs3 := hs3.below hcx
                  clear hcx
                  replace kt0 := cell_later hb (cell_al _ kt0)
                  replace kt1 := cell_later hb (cell_al _ kt1)
                  replace kt2 := cell_later hb (cell_al _ kt2)
                  replace ku0 := cell_later hb (cell_al _ ku0)
                  replace ku1 := cell_later hb (cell_al _ ku1)
                  replace ku2 := cell_later hb (cell_al _ ku2)
                  have kj0 : w5.cell? ⟨w4.heap.size, 0, none⟩ = some (.int .i64 s) := cell_later hb (by go_simp)
                  have kj1 : w5.cell? ⟨w4.heap.size, 1, none⟩ = some (.int .i64 p) := cell_later hb (by go_simp)
                  have kj2 : w5.cell? ⟨w4.heap.size, 2, none⟩ = some (.slice pp3 l.length cap3) := cell_later hb (by go_simp)
                  replace zt : w.heap.size < w5.heap.size := World.block_lt_of_cell? _ _ kt0
                  have zt_w5 := zt
                  replace zu : w.heap.size + 1 < w5.heap.size := World.block_lt_of_cell? _ _ ku0
                  have zu_w5 := zu
                  have zj : w4.heap.size < w5.heap.size := World.block_lt_of_cell? _ _ kj0
                  have zj_w5 := zj
                  replace hb0 : Below w.heap.size w w5 := (by repeat (first | with_reducible exact Below.refl _ _ | with_reducible assumption | with_reducible refine Below.setCell ?_ (by first | omega | (simp <;> omega)) _ | with_reducible refine balloc ?_ _ | with_reducible refine Below.drew ?_ | with_reducible refine bstep ?_ (by with_reducible assumption)))
                  have hs_w5 := hb.size; (try simp only [World.size_alloc, World.size_setCell] at hs_w5)
                  clear hb
                  go_wp2_with fail
                  refine Calls.mono (HB _ (by repeat (first | with_reducible exact Below.refl _ _ | with_reducible assumption | with_reducible refine Below.setCell ?_ (by first | omega | (simp <;> omega)) _ | with_reducible refine balloc ?_ _ | with_reducible refine Below.drew ?_ | with_reducible refine bstep ?_ (by with_reducible assumption)))) ?_
                  rintro e w6 ⟨rfl, hb⟩
                  have hcx : Below w5.heap.size w5 w6 := (by repeat (first | with_reducible exact Below.refl _ _ | with_reducible assumption | with_reducible refine Below.setCell ?_ (by first | omega | (simp <;> omega)) _ | with_reducible refine balloc ?_ _ | with_reducible refine Below.drew ?_ | with_reducible refine bstep ?_ (by with_reducible assumption)))
                  replace hs3 := hs3.below hcx
                  clear hcx
                  replace kt0 := cell_later hb (cell_al _ kt0)
                  replace kt1 := cell_later hb (cell_al _ kt1)
                  replace kt2 := cell_later hb (cell_al _ kt2)
                  replace ku0 := cell_later hb (cell_al _ ku0)
                  replace ku1 := cell_later hb (cell_al _ ku1)
                  replace ku2 := cell_later hb (cell_al _ ku2)
                  replace kj0 := cell_later hb (cell_al _ kj0)
                  replace kj1 := cell_later hb (cell_al _ kj1)
                  replace kj2 := cell_later hb (cell_al _ kj2)
                  have ka0 : w6.cell? ⟨w5.heap.size, 0, none⟩ = some (.int .i64 a1) := cell_later hb (by go_simp)
                  have ka1 : w6.cell? ⟨w5.heap.size, 1, none⟩ = some (.int .i64 a2) := cell_later hb (by go_simp)
                  replace zt : w.heap.size < w6.heap.size := World.block_lt_of_cell? _ _ kt0
                  have zt_w6 := zt
                  replace zu : w.heap.size + 1 < w6.heap.size := World.block_lt_of_cell? _ _ ku0
                  have zu_w6 := zu
                  replace zj : w4.heap.size < w6.heap.size := World.block_lt_of_cell? _ _ kj0
                  have zj_w6 := zj
                  have za : w5.heap.size < w6.heap.size := World.block_lt_of_cell? _ _ ka0
                  have za_w6 := za
                  replace hb0 : Below w.heap.size w w6 := (by repeat (first | with_reducible exact Below.refl _ _ | with_reducible assumption | with_reducible refine Below.setCell ?_ (by first | omega | (simp <;> omega)) _ | with_reducible refine balloc ?_ _ | with_reducible refine Below.drew ?_ | with_reducible refine bstep ?_ (by with_reducible assumption)))
                  have hs_w6 := hb.size; (try simp only [World.size_alloc, World.size_setCell] at hs_w6)
                  clear hb
                  go_wp2_with fail
                  refine Calls.mono (HJ _ _ (hs3.below (by repeat (first | with_reducible exact Below.refl _ _ | with_reducible assumption | with_reducible refine Below.setCell ?_ (by first | omega | (simp <;> omega)) _ | with_reducible refine balloc ?_ _ | with_reducible refine Below.drew ?_ | with_reducible refine bstep ?_ (by with_reducible assumption))))) ?_
                  rintro e w7 ⟨rfl, hb⟩
                  have hcx : Below w6.heap.size w6 w7 := (by repeat (first | with_reducible exact Below.refl _ _ | with_reducible assumption | with_reducible refine Below.setCell ?_ (by first | omega | (simp <;> omega)) _ | with_reducible refine balloc ?_ _ | with_reducible refine Below.drew ?_ | with_reducible refine bstep ?_ (by with_reducible assumption)))
                  replace hs3 := hs3.below hcx
                  clear hcx
                  replace kt0 := cell_later hb (cell_al _ kt0)
                  replace kt1 := cell_later hb (cell_al _ kt1)
                  replace kt2 := cell_later hb (cell_al _ kt2)
                  replace ku0 := cell_later hb (cell_al _ ku0)
                  replace ku1 := cell_later hb (cell_al _ ku1)
                  replace ku2 := cell_later hb (cell_al _ ku2)
                  replace kj0 := cell_later hb (cell_al _ kj0)
                  replace kj1 := cell_later hb (cell_al _ kj1)
                  replace kj2 := cell_later hb (cell_al _ kj2)
                  replace ka0 := cell_later hb (cell_al _ ka0)
                  replace ka1 := cell_later hb (cell_al _ ka1)
                  have kb0 : w7.cell? ⟨w6.heap.size, 0, none⟩ = some (.int .i64 b1) := cell_later hb (by go_simp)
                  have kb1 : w7.cell? ⟨w6.heap.size, 1, none⟩ = some (.int .i64 b2) := cell_later hb (by go_simp)
                  replace zt : w.heap.size < w7.heap.size := World.block_lt_of_cell? _ _ kt0
                  have zt_w7 := zt
                  replace zu : w.heap.size + 1 < w7.heap.size := World.block_lt_of_cell? _ _ ku0
                  have zu_w7 := zu
                  replace zj : w4.heap.size < w7.heap.size := World.block_lt_of_cell? _ _ kj0
                  have zj_w7 := zj
                  replace za : w5.heap.size < w7.heap.size := World.block_lt_of_cell? _ _ ka0
                  have za_w7 := za
                  have zb : w6.heap.size < w7.heap.size := World.block_lt_of_cell? _ _ kb0
                  have zb_w7 := zb
                  replace hb0 : Below w.heap.size w w7 := (by repeat (first | with_reducible exact Below.refl _ _ | with_reducible assumption | with_reducible refine Below.setCell ?_ (by first | omega | (simp <;> omega)) _ | with_reducible refine balloc ?_ _ | with_reducible refine Below.drew ?_ | with_reducible refine bstep ?_ (by with_reducible assumption)))
                  have hs_w7 := hb.size; (try simp only [World.size_alloc, World.size_setCell] at hs_w7)
                  clear hb
                  go_wp2_with fail
                  refine Calls.mono (JJ _) ?_
                  rintro e w8 ⟨rfl, hb⟩
                  have hcx : Below w7.heap.size w7 w8 := (by repeat (first | with_reducible exact Below.refl _ _ | with_reducible assumption | with_reducible refine Below.setCell ?_ (by first | omega | (simp <;> omega)) _ | with_reducible refine balloc ?_ _ | with_reducible refine Below.drew ?_ | with_reducible refine bstep ?_ (by with_reducible assumption)))
                  replace hs3 := hs3.below hcx
                  clear hcx
                  replace kt0 := cell_later hb (cell_al _ kt0)
                  replace kt1 := cell_later hb (cell_al _ kt1)
                  replace kt2 := cell_later hb (cell_al _ kt2)
                  replace ku0 := cell_later hb (cell_al _ ku0)
                  replace ku1 := cell_later hb (cell_al _ ku1)
                  replace ku2 := cell_later hb (cell_al _ ku2)
                  replace kj0 := cell_later hb (cell_al _ kj0)
                  replace kj1 := cell_later hb (cell_al _ kj1)
                  replace kj2 := cell_later hb (cell_al _ kj2)
                  replace ka0 := cell_later hb (cell_al _ ka0)
                  replace ka1 := cell_later hb (cell_al _ ka1)
                  replace kb0 := cell_later hb (cell_al _ kb0)
                  replace kb1 := cell_later hb (cell_al _ kb1)
                  have kc0 : w8.cell? ⟨w7.heap.size, 0, none⟩ = some (.int .i64 c1) := cell_later hb (by go_simp)
                  have kc1 : w8.cell? ⟨w7.heap.size, 1, none⟩ = some (.int .i64 c2) := cell_later hb (by go_simp)
                  replace zt : w.heap.size < w8.heap.size := World.block_lt_of_cell? _ _ kt0
                  have zt_w8 := zt
                  replace zu : w.heap.size + 1 < w8.heap.size := World.block_lt_of_cell? _ _ ku0
                  have zu_w8 := zu
                  replace zj : w4.heap.size < w8.heap.size := World.block_lt_of_cell? _ _ kj0
                  have zj_w8 := zj
                  replace za : w5.heap.size < w8.heap.size := World.block_lt_of_cell? _ _ ka0
                  have za_w8 := za
                  replace zb : w6.heap.size < w8.heap.size := World.block_lt_of_cell? _ _ kb0
                  have zb_w8 := zb
                  have zc : w7.heap.size < w8.heap.size := World.block_lt_of_cell? _ _ kc0
                  have zc_w8 := zc
                  replace hb0 : Below w.heap.size w w8 := (by repeat (first | with_reducible exact Below.refl _ _ | with_reducible assumption | with_reducible refine Below.setCell ?_ (by first | omega | (simp <;> omega)) _ | with_reducible refine balloc ?_ _ | with_reducible refine Below.drew ?_ | with_reducible refine bstep ?_ (by with_reducible assumption)))
                  have hs_w8 := hb.size; (try simp only [World.size_alloc, World.size_setCell] at hs_w8)
                  clear hb
                  go_wp2_with fail
                  refine Calls.mono (ME _ (by repeat (first | with_reducible exact Below.refl _ _ | with_reducible assumption | with_reducible refine Below.setCell ?_ (by first | omega | (simp <;> omega)) _ | with_reducible refine balloc ?_ _ | with_reducible refine Below.drew ?_ | with_reducible refine bstep ?_ (by with_reducible assumption)))) ?_
                  rintro e w9 ⟨v4, rfl, hs4, hfr4, hb⟩
                  have hcx : Below w8.heap.size w8 w9 := (by repeat (first | with_reducible exact Below.refl _ _ | with_reducible assumption | with_reducible refine Below.setCell ?_ (by first | omega | (simp <;> omega)) _ | with_reducible refine balloc ?_ _ | with_reducible refine Below.drew ?_ | with_reducible refine bstep ?_ (by with_reducible assumption)))
                  replace hs3 := hs3.below hcx
                  clear hcx
                  replace kt0 := cell_later hb (cell_al _ kt0)
                  replace kt1 := cell_later hb (cell_al _ kt1)
                  replace kt2 := cell_later hb (cell_al _ kt2)
                  replace ku0 := cell_later hb (cell_al _ ku0)
                  replace ku1 := cell_later hb (cell_al _ ku1)
                  replace ku2 := cell_later hb (cell_al _ ku2)
                  replace kj0 := cell_later hb (cell_al _ kj0)
                  replace kj1 := cell_later hb (cell_al _ kj1)
                  replace kj2 := cell_later hb (cell_al _ kj2)
                  replace ka0 := cell_later hb (cell_al _ ka0)
                  replace ka1 := cell_later hb (cell_al _ ka1)
                  replace kb0 := cell_later hb (cell_al _ kb0)
                  replace kb1 := cell_later hb (cell_al _ kb1)
                  replace kc0 := cell_later hb (cell_al _ kc0)
                  replace kc1 := cell_later hb (cell_al _ kc1)
                  have kd0 : w9.cell? ⟨w8.heap.size, 0, none⟩ = some (.int .i64 c1) := cell_later hb (by go_simp)
                  have kd1 : w9.cell? ⟨w8.heap.size, 1, none⟩ = some (.int .i64 c2) := cell_later hb (by go_simp)
                  replace zt : w.heap.size < w9.heap.size := World.block_lt_of_cell? _ _ kt0
                  have zt_w9 := zt
                  replace zu : w.heap.size + 1 < w9.heap.size := World.block_lt_of_cell? _ _ ku0
                  have zu_w9 := zu
                  replace zj : w4.heap.size < w9.heap.size := World.block_lt_of_cell? _ _ kj0
                  have zj_w9 := zj
                  replace za : w5.heap.size < w9.heap.size := World.block_lt_of_cell? _ _ ka0
                  have za_w9 := za
                  replace zb : w6.heap.size < w9.heap.size := World.block_lt_of_cell? _ _ kb0
                  have zb_w9 := zb
                  replace zc : w7.heap.size < w9.heap.size := World.block_lt_of_cell? _ _ kc0
                  have zc_w9 := zc
                  have zd : w8.heap.size < w9.heap.size := World.block_lt_of_cell? _ _ kd0
                  have zd_w9 := zd
                  replace hb0 : Below w.heap.size w w9 := (by repeat (first | with_reducible exact Below.refl _ _ | with_reducible assumption | with_reducible refine Below.setCell ?_ (by first | omega | (simp <;> omega)) _ | with_reducible refine balloc ?_ _ | with_reducible refine Below.drew ?_ | with_reducible refine bstep ?_ (by with_reducible assumption)))
                  have hs_w9 := hb.size; (try simp only [World.size_alloc, World.size_setCell] at hs_w9)
                  clear hb
                  obtain ⟨⟨pp4, cap4, rfl, _, _, _⟩, _⟩ := id hs4
                  generalize hl4 : (bif false then mL l l2 else []).length = n4 at *
                  clear hl4
                  go_wp2_with fail
                  refine Calls.mono (MB _ (by repeat (first | with_reducible exact Below.refl _ _ | with_reducible assumption | with_reducible refine Below.setCell ?_ (by first | omega | (simp <;> omega)) _ | with_reducible refine balloc ?_ _ | with_reducible refine Below.drew ?_ | with_reducible refine bstep ?_ (by with_reducible assumption)))) ?_
                  rintro e w10 ⟨v5, rfl, hs5, hfr5, hb⟩
                  have hcx : Below w9.heap.size w9 w10 := (by repeat (first | with_reducible exact Below.refl _ _ | with_reducible assumption | with_reducible refine Below.setCell ?_ (by first | omega | (simp <;> omega)) _ | with_reducible refine balloc ?_ _ | with_reducible refine Below.drew ?_ | with_reducible refine bstep ?_ (by with_reducible assumption)))
                  replace hs3 := hs3.below hcx
                  replace hs4 := hs4.below hcx
                  clear hcx
                  replace kt0 := cell_later hb (cell_al _ kt0)
                  replace kt1 := cell_later hb (cell_al _ kt1)
                  replace kt2 := cell_later hb (cell_al _ kt2)
                  replace ku0 := cell_later hb (cell_al _ ku0)
                  replace ku1 := cell_later hb (cell_al _ ku1)
                  replace ku2 := cell_later hb (cell_al _ ku2)
                  replace kj0 := cell_later hb (cell_al _ kj0)
                  replace kj1 := cell_later hb (cell_al _ kj1)
                  replace kj2 := cell_later hb (cell_al _ kj2)
                  replace ka0 := cell_later hb (cell_al _ ka0)
                  replace ka1 := cell_later hb (cell_al _ ka1)
                  replace kb0 := cell_later hb (cell_al _ kb0)
                  replace kb1 := cell_later hb (cell_al _ kb1)
                  replace kc0 := cell_later hb (cell_al _ kc0)
                  replace kc1 := cell_later hb (cell_al _ kc1)
                  replace kd0 := cell_later hb (cell_al _ kd0)
                  replace kd1 := cell_later hb (cell_al _ kd1)
                  have km0 : w10.cell? ⟨w9.heap.size, 0, none⟩ = some (.int .i64 (selI false s)) := cell_later hb (by go_simp)
                  have km1 : w10.cell? ⟨w9.heap.size, 1, none⟩ = some (.int .i64 (selI false p)) := cell_later hb (by go_simp)
                  have km2 : w10.cell? ⟨w9.heap.size, 2, none⟩ = some (.slice pp4 n4 cap4) := cell_later hb (by go_simp)
                  replace zt : w.heap.size < w10.heap.size := World.block_lt_of_cell? _ _ kt0
                  have zt_w10 := zt
                  replace zu : w.heap.size + 1 < w10.heap.size := World.block_lt_of_cell? _ _ ku0
                  have zu_w10 := zu
                  replace zj : w4.heap.size < w10.heap.size := World.block_lt_of_cell? _ _ kj0
                  have zj_w10 := zj
                  replace za : w5.heap.size < w10.heap.size := World.block_lt_of_cell? _ _ ka0
                  have za_w10 := za
                  replace zb : w6.heap.size < w10.heap.size := World.block_lt_of_cell? _ _ kb0
                  have zb_w10 := zb
                  replace zc : w7.heap.size < w10.heap.size := World.block_lt_of_cell? _ _ kc0
                  have zc_w10 := zc
                  replace zd : w8.heap.size < w10.heap.size := World.block_lt_of_cell? _ _ kd0
                  have zd_w10 := zd
                  have zm : w9.heap.size < w10.heap.size := World.block_lt_of_cell? _ _ km0
                  have zm_w10 := zm
                  replace hb0 : Below w.heap.size w w10 := (by repeat (first | with_reducible exact Below.refl _ _ | with_reducible assumption | with_reducible refine Below.setCell ?_ (by first | omega | (simp <;> omega)) _ | with_reducible refine balloc ?_ _ | with_reducible refine Below.drew ?_ | with_reducible refine bstep ?_ (by with_reducible assumption)))
                  have hs_w10 := hb.size; (try simp only [World.size_alloc, World.size_setCell] at hs_w10)
                  clear hb
                  obtain ⟨⟨pp5, cap5, rfl, _, _, _⟩, _⟩ := id hs5
                  go_wp2
                  go_ret
                  exact ⟨rfl, (by repeat (first | with_reducible exact Below.refl _ _ | with_reducible assumption | with_reducible refine Below.setCell ?_ (by first | omega | (simp <;> omega)) _ | with_reducible refine balloc ?_ _ | with_reducible refine Below.drew ?_ | with_reducible refine bstep ?_ (by with_reducible assumption)))⟩
            · rw [h6] at ME MB
              simp only [erv, cond] at ME MB
              have ME2 : ∀ W, Below w.heap.size w W → Calls Try.prog 22 #[.agg #[(.int .i64 s), (.int .i64 p), .slice pp l.length cap], .agg #[(.int .i64 s), (.int .i64 p), .slice pp2 l2.length cap2]] W (fun e W' => ∃ v', e = .returned (.tuple #[.agg #[(.int .i64 s), (.int .i64 p), v'], (.int .i64 0)]) ∧ Spans W' v' (mL l l2) ∧ Fresh W.heap.size v' ∧ Below W.heap.size W W') := ME
              have MB2 : ∀ W, Below w.heap.size w W → Calls Try.prog 22 #[.agg #[(.int .i64 s), (.int .i64 p), .slice pp2 l2.length cap2], .agg #[(.int .i64 s), (.int .i64 p), .slice pp l.length cap]] W (fun e W' => ∃ v', e = .returned (.tuple #[.agg #[(.int .i64 s), (.int .i64 p), v'], (.int .i64 0)]) ∧ Spans W' v' (mL l l2) ∧ Fresh W.heap.size v' ∧ Below W.heap.size W W') := MB
              clear ME MB
              obtain ⟨rfl, od, ⟨m1, m2⟩, m3, m4⟩ := hm h6
              have od1 := okH_iff.1 od
              dsimp only at od1 m1 m2 m3 m4
              have vd : vE 1000000000000 d1 d2 = true := by rw [vE_iff]; omega
              have WA : ∀ w, Calls Try.prog 30 #[.agg #[(.int .i64 d1), (.int .i64 d2)], .agg #[(.int .i64 a1), (.int .i64 a2)]] w (Ret w (.tuple #[(.bool true), (.int .i64 0)])) := fun w => by have := Sp.Within_c d1 d2 a1 a2 w; rw [show wI d1 d2 a1 a2 = true by rw [wI_iff]; omega] at this; simpa [vWithin, va, vd, selB, erv] using this
              have WB : ∀ w, Calls Try.prog 30 #[.agg #[(.int .i64 d1), (.int .i64 d2)], .agg #[(.int .i64 b1), (.int .i64 b2)]] w (Ret w (.tuple #[(.bool true), (.int .i64 0)])) := fun w => by have := Sp.Within_c d1 d2 b1 b2 w; rw [show wI d1 d2 b1 b2 = true by rw [wI_iff]; omega] at this; simpa [vWithin, vb, vd, selB, erv] using this
              have hdn : (a1 < need ∧ b1 < need) ∨ need ≤ d1 := by omega
              have HML := Lib.hid hml
              clear hm va vb vd oa ob od oa1 ob1 od1 m1 m2 m3 m4 h6 hml
              generalize mL l l2 = lm at *
              generalize hc1 : min a1 b1 = c1 at *
              generalize max a2 b2 = c2 at *
              have hcc : c1 < need ↔ (a1 < need ∨ b1 < need) := by omega
              by_cases q1 : a1 < need
              · by_cases q2 : b1 < need
                · have q3 : c1 < need := by omega
                  clear hdn hcc hcn hc1
                  go_enter Try.func8, Try.ntmps8
                  go_wp2_with fail
                  refine Calls.mono (head_c _) ?_
                  rintro e w1 ⟨rfl, hb⟩
                  have kt0 : w1.cell? ⟨w.heap.size, 0, none⟩ = some (.int .i64 s) := cell_later hb (by go_simp)
                  have kt1 : w1.cell? ⟨w.heap.size, 1, none⟩ = some (.int .i64 p) := cell_later hb (by go_simp)
                  have kt2 : w1.cell? ⟨w.heap.size, 2, none⟩ = some (.slice pp l.length cap) := cell_later hb (by go_simp)
                  have ku0 : w1.cell? ⟨w.heap.size + 1, 0, none⟩ = some (.int .i64 s) := cell_later hb (by go_simp)
                  have ku1 : w1.cell? ⟨w.heap.size + 1, 1, none⟩ = some (.int .i64 p) := cell_later hb (by go_simp)
                  have ku2 : w1.cell? ⟨w.heap.size + 1, 2, none⟩ = some (.slice pp2 l2.length cap2) := cell_later hb (by go_simp)
                  have zt : w.heap.size < w1.heap.size := World.block_lt_of_cell? _ _ kt0
                  have zt_w1 := zt
                  have zu : w.heap.size + 1 < w1.heap.size := World.block_lt_of_cell? _ _ ku0
                  have zu_w1 := zu
                  have hb0 : Below w.heap.size w w1 := (by repeat (first | with_reducible exact Below.refl _ _ | with_reducible assumption | with_reducible refine Below.setCell ?_ (by first | omega | (simp <;> omega)) _ | with_reducible refine balloc ?_ _ | with_reducible refine Below.drew ?_ | with_reducible refine bstep ?_ (by with_reducible assumption)))
                  have hs_w1 := hb.size; (try simp only [World.size_alloc, World.size_setCell] at hs_w1)
                  clear hb
                  go_wp2_with fail
                  refine Calls.mono (F1 _ (by repeat (first | with_reducible exact Below.refl _ _ | with_reducible assumption | with_reducible refine Below.setCell ?_ (by first | omega | (simp <;> omega)) _ | with_reducible refine balloc ?_ _ | with_reducible refine Below.drew ?_ | with_reducible refine bstep ?_ (by with_reducible assumption)))) ?_
                  rintro e w2 ⟨rfl, hb⟩
                  replace kt0 := cell_later hb kt0
                  replace kt1 := cell_later hb kt1
                  replace kt2 := cell_later hb kt2
                  replace ku0 := cell_later hb ku0
                  replace ku1 := cell_later hb ku1
                  replace ku2 := cell_later hb ku2
                  replace zt : w.heap.size < w2.heap.size := World.block_lt_of_cell? _ _ kt0
                  have zt_w2 := zt
                  replace zu : w.heap.size + 1 < w2.heap.size := World.block_lt_of_cell? _ _ ku0
                  have zu_w2 := zu
                  replace hb0 : Below w.heap.size w w2 := (by repeat (first | with_reducible exact Below.refl _ _ | with_reducible assumption | with_reducible refine Below.setCell ?_ (by first | omega | (simp <;> omega)) _ | with_reducible refine balloc ?_ _ | with_reducible refine Below.drew ?_ | with_reducible refine bstep ?_ (by with_reducible assumption)))
                  have hs_w2 : w1.heap.size ≤ w2.heap.size := hb.size
                  clear hb
                  go_wp2_with fail
                  refine Calls.mono (F2 _ (by repeat (first | with_reducible exact Below.refl _ _ | with_reducible assumption | with_reducible refine Below.setCell ?_ (by first | omega | (simp <;> omega)) _ | with_reducible refine balloc ?_ _ | with_reducible refine Below.drew ?_ | with_reducible refine bstep ?_ (by with_reducible assumption)))) ?_
                  rintro e w3 ⟨rfl, hb⟩
                  replace kt0 := cell_later hb kt0
                  replace kt1 := cell_later hb kt1
                  replace kt2 := cell_later hb kt2
                  replace ku0 := cell_later hb ku0
                  replace ku1 := cell_later hb ku1
                  replace ku2 := cell_later hb ku2
                  replace zt : w.heap.size < w3.heap.size := World.block_lt_of_cell? _ _ kt0
                  have zt_w3 := zt
                  replace zu : w.heap.size + 1 < w3.heap.size := World.block_lt_of_cell? _ _ ku0
                  have zu_w3 := zu
                  replace hb0 : Below w.heap.size w w3 := (by repeat (first | with_reducible exact Below.refl _ _ | with_reducible assumption | with_reducible refine Below.setCell ?_ (by first | omega | (simp <;> omega)) _ | with_reducible refine balloc ?_ _ | with_reducible refine Below.drew ?_ | with_reducible refine bstep ?_ (by with_reducible assumption)))
                  have hs_w3 : w2.heap.size ≤ w3.heap.size := hb.size
                  clear hb
                  go_wp2_with fail
                  refine Calls.mono (JO2 _ (by repeat (first | with_reducible exact Below.refl _ _ | with_reducible assumption | with_reducible refine Below.setCell ?_ (by first | omega | (simp <;> omega)) _ | with_reducible refine balloc ?_ _ | with_reducible refine Below.drew ?_ | with_reducible refine bstep ?_ (by with_reducible assumption)))) ?_
                  rintro e w4 ⟨v3, rfl, hs3, hfr3, hb⟩
                  replace kt0 := cell_later hb kt0
                  replace kt1 := cell_later hb kt1
                  replace kt2 := cell_later hb kt2
                  replace ku0 := cell_later hb ku0
                  replace ku1 := cell_later hb ku1
                  replace ku2 := cell_later hb ku2
                  replace zt : w.heap.size < w4.heap.size := World.block_lt_of_cell? _ _ kt0
                  have zt_w4 := zt
                  replace zu : w.heap.size + 1 < w4.heap.size := World.block_lt_of_cell? _ _ ku0
                  have zu_w4 := zu
                  replace hb0 : Below w.heap.size w w4 := (by repeat (first | with_reducible exact Below.refl _ _ | with_reducible assumption | with_reducible refine Below.setCell ?_ (by first | omega | (simp <;> omega)) _ | with_reducible refine balloc ?_ _ | with_reducible refine Below.drew ?_ | with_reducible refine bstep ?_ (by with_reducible assumption)))
                  have hs_w4 : w3.heap.size ≤ w4.heap.size := hb.size
                  clear hb
                  obtain ⟨⟨pp3, cap3, rfl, _, _, _⟩, _⟩ := id hs3
                  rw [HJL.out] at hs3 ⊢
                  go_wp2_with fail
                  refine Calls.mono (HA _ (by repeat (first | with_reducible exact Below.refl _ _ | with_reducible assumption | with_reducible refine Below.setCell ?_ (by first | omega | (simp <;> omega)) _ | with_reducible refine balloc ?_ _ | with_reducible refine Below.drew ?_ | with_reducible refine bstep ?_ (by with_reducible assumption)))) ?_
                  rintro e w5 ⟨rfl, hb⟩
                  have hcx : Below w4.heap.size w4 w5 := (by repeat (first | with_reducible exact Below.refl _ _ | with_reducible assumption | with_reducible refine Below.setCell ?_ (by first | omega | (simp <;> omega)) _ | with_reducible refine balloc ?_ _ | with_reducible refine Below.drew ?_ | with_reducible refine bstep ?_ (by with_reducible assumption)))
                  replace hs3 := hs3.below hcx
                  clear hcx
                  replace kt0 := cell_later hb (cell_al _ kt0)
                  replace kt1 := cell_later hb (cell_al _ kt1)
                  replace kt2 := cell_later hb (cell_al _ kt2)
                  replace ku0 := cell_later hb (cell_al _ ku0)
                  replace ku1 := cell_later hb (cell_al _ ku1)
                  replace ku2 := cell_later hb (cell_al _ ku2)
                  have kj0 : w5.cell? ⟨w4.heap.size, 0, none⟩ = some (.int .i64 s) := cell_later hb (by go_simp)
                  have kj1 : w5.cell? ⟨w4.heap.size, 1, none⟩ = some (.int .i64 p) := cell_later hb (by go_simp)
                  have kj2 : w5.cell? ⟨w4.heap.size, 2, none⟩ = some (.slice pp3 l.length cap3) := cell_later hb (by go_simp)
                  replace zt : w.heap.size < w5.heap.size := World.block_lt_of_cell? _ _ kt0
                  have zt_w5 := zt
                  replace zu : w.heap.size + 1 < w5.heap.size := World.block_lt_of_cell? _ _ ku0
                  have zu_w5 := zu
                  have zj : w4.heap.size < w5.heap.size := World.block_lt_of_cell? _ _ kj0
                  have zj_w5 := zj
                  replace hb0 : Below w.heap.size w w5 := (by repeat (first | with_reducible exact Below.refl _ _ | with_reducible assumption | with_reducible refine Below.setCell ?_ (by first | omega | (simp <;> omega)) _ | with_reducible refine balloc ?_ _ | with_reducible refine Below.drew ?_ | with_reducible refine bstep ?_ (by with_reducible assumption)))
                  have hs_w5 := hb.size; (try simp only [World.size_alloc, World.size_setCell] at hs_w5)
                  clear hb
                  go_wp2_with fail
                  refine Calls.mono (HB _ (by repeat (first | with_reducible exact Below.refl _ _ | with_reducible assumption | with_reducible refine Below.setCell ?_ (by first | omega | (simp <;> omega)) _ | with_reducible refine balloc ?_ _ | with_reducible refine Below.drew ?_ | with_reducible refine bstep ?_ (by with_reducible assumption)))) ?_
                  rintro e w6 ⟨rfl, hb⟩
                  have hcx : Below w5.heap.size w5 w6 := (by repeat (first | with_reducible exact Below.refl _ _ | with_reducible assumption | with_reducible refine Below.setCell ?_ (by first | omega | (simp <;> omega)) _ | with_reducible refine balloc ?_ _ | with_reducible refine Below.drew ?_ | with_reducible refine bstep ?_ (by with_reducible assumption)))
                  replace hs3 := hs3.below hcx
                  clear hcx
                  replace kt0 := cell_later hb (cell_al _ kt0)
                  replace kt1 := cell_later hb (cell_al _ kt1)
                  replace kt2 := cell_later hb (cell_al _ kt2)
                  replace ku0 := cell_later hb (cell_al _ ku0)
                  replace ku1 := cell_later hb (cell_al _ ku1)
                  replace ku2 := cell_later hb (cell_al _ ku2)
                  replace kj0 := cell_later hb (cell_al _ kj0)
                  replace kj1 := cell_later hb (cell_al _ kj1)
                  replace kj2 := cell_later hb (cell_al _ kj2)
                  have ka0 : w6.cell? ⟨w5.heap.size, 0, none⟩ = some (.int .i64 a1) := cell_later hb (by go_simp)
                  have ka1 : w6.cell? ⟨w5.heap.size, 1, none⟩ = some (.int .i64 a2) := cell_later hb (by go_simp)
                  replace zt : w.heap.size < w6.heap.size := World.block_lt_of_cell? _ _ kt0
                  have zt_w6 := zt
                  replace zu : w.heap.size + 1 < w6.heap.size := World.block_lt_of_cell? _ _ ku0
                  have zu_w6 := zu
                  replace zj : w4.heap.size < w6.heap.size := World.block_lt_of_cell? _ _ kj0
                  have zj_w6 := zj
                  have za : w5.heap.size < w6.heap.size := World.block_lt_of_cell? _ _ ka0
                  have za_w6 := za
                  replace hb0 : Below w.heap.size w w6 := (by repeat (first | with_reducible exact Below.refl _ _ | with_reducible assumption | with_reducible refine Below.setCell ?_ (by first | omega | (simp <;> omega)) _ | with_reducible refine balloc ?_ _ | with_reducible refine Below.drew ?_ | with_reducible refine bstep ?_ (by with_reducible assumption)))
                  have hs_w6 := hb.size; (try simp only [World.size_alloc, World.size_setCell] at hs_w6)
                  clear hb
                  go_wp2_with fail
                  refine Calls.mono (HJ _ _ (hs3.below (by repeat (first | with_reducible exact Below.refl _ _ | with_reducible assumption | with_reducible refine Below.setCell ?_ (by first | omega | (simp <;> omega)) _ | with_reducible refine balloc ?_ _ | with_reducible refine Below.drew ?_ | with_reducible refine bstep ?_ (by with_reducible assumption))))) ?_
                  rintro e w7 ⟨rfl, hb⟩
                  have hcx : Below w6.heap.size w6 w7 := (by repeat (first | with_reducible exact Below.refl _ _ | with_reducible assumption | with_reducible refine Below.setCell ?_ (by first | omega | (simp <;> omega)) _ | with_reducible refine balloc ?_ _ | with_reducible refine Below.drew ?_ | with_reducible refine bstep ?_ (by with_reducible assumption)))
                  replace hs3 := hs3.below hcx
                  clear hcx
                  replace kt0 := cell_later hb (cell_al _ kt0)
                  replace kt1 := cell_later hb (cell_al _ kt1)
                  replace kt2 := cell_later hb (cell_al _ kt2)
                  replace ku0 := cell_later hb (cell_al _ ku0)
                  replace ku1 := cell_later hb (cell_al _ ku1)
                  replace ku2 := cell_later hb (cell_al _ ku2)
                  replace kj0 := cell_later hb (cell_al _ kj0)
                  replace kj1 := cell_later hb (cell_al _ kj1)
                  replace kj2 := cell_later hb (cell_al _ kj2)
                  replace ka0 := cell_later hb (cell_al _ ka0)
                  replace ka1 := cell_later hb (cell_al _ ka1)
                  have kb0 : w7.cell? ⟨w6.heap.size, 0, none⟩ = some (.int .i64 b1) := cell_later hb (by go_simp)
                  have kb1 : w7.cell? ⟨w6.heap.size, 1, none⟩ = some (.int .i64 b2) := cell_later hb (by go_simp)
                  replace zt : w.heap.size < w7.heap.size := World.block_lt_of_cell? _ _ kt0
                  have zt_w7 := zt
                  replace zu : w.heap.size + 1 < w7.heap.size := World.block_lt_of_cell? _ _ ku0
                  have zu_w7 := zu
                  replace zj : w4.heap.size < w7.heap.size := World.block_lt_of_cell? _ _ kj0
                  have zj_w7 := zj
                  replace za : w5.heap.size < w7.heap.size := World.block_lt_of_cell? _ _ ka0
                  have za_w7 := za
                  have zb : w6.heap.size < w7.heap.size := World.block_lt_of_cell? _ _ kb0
                  have zb_w7 := zb
                  replace hb0 : Below w.heap.size w w7 := (by repeat (first | with_reducible exact Below.refl _ _ | with_reducible assumption | with_reducible refine Below.setCell ?_ (by first | omega | (simp <;> omega)) _ | with_reducible refine balloc ?_ _ | with_reducible refine Below.drew ?_ | with_reducible refine bstep ?_ (by with_reducible assumption)))
                  have hs_w7 := hb.size; (try simp only [World.size_alloc, World.size_setCell] at hs_w7)
                  clear hb
                  go_wp2_with fail
                  refine Calls.mono (JJ _) ?_
                  rintro e w8 ⟨rfl, hb⟩
                  have hcx : Below w7.heap.size w7 w8 := (by repeat (first | with_reducible exact Below.refl _ _ | with_reducible assumption | with_reducible refine Below.setCell ?_ (by first | omega | (simp <;> omega)) _ | with_reducible refine balloc ?_ _ | with_reducible refine Below.drew ?_ | with_reducible refine bstep ?_ (by with_reducible assumption)))
                  replace hs3 := hs3.below hcx
                  clear hcx
                  replace kt0 := cell_later hb (cell_al _ kt0)
                  replace kt1 := cell_later hb (cell_al _ kt1)
                  replace kt2 := cell_later hb (cell_al _ kt2)
                  replace ku0 := cell_later hb (cell_al _ ku0)
                  replace ku1 := cell_later hb (cell_al _ ku1)
                  replace ku2 := cell_later hb (cell_al _ ku2)
                  replace kj0 := cell_later hb (cell_al _ kj0)
                  replace kj1 := cell_later hb (cell_al _ kj1)
                  replace kj2 := cell_later hb (cell_al _ kj2)
                  replace ka0 := cell_later hb (cell_al _ ka0)
                  replace ka1 := cell_later hb (cell_al _ ka1)
                  replace kb0 := cell_later hb (cell_al _ kb0)
                  replace kb1 := cell_later hb (cell_al _ kb1)
                  have kc0 : w8.cell? ⟨w7.heap.size, 0, none⟩ = some (.int .i64 c1) := cell_later hb (by go_simp)
                  have kc1 : w8.cell? ⟨w7.heap.size, 1, none⟩ = some (.int .i64 c2) := cell_later hb (by go_simp)
                  replace zt : w.heap.size < w8.heap.size := World.block_lt_of_cell? _ _ kt0
                  have zt_w8 := zt
                  replace zu : w.heap.size + 1 < w8.heap.size := World.block_lt_of_cell? _ _ ku0
                  have zu_w8 := zu
                  replace zj : w4.heap.size < w8.heap.size := World.block_lt_of_cell? _ _ kj0
                  have zj_w8 := zj
                  replace za : w5.heap.size < w8.heap.size := World.block_lt_of_cell? _ _ ka0
                  have za_w8 := za
                  replace zb : w6.heap.size < w8.heap.size := World.block_lt_of_cell? _ _ kb0
                  have zb_w8 := zb
                  have zc : w7.heap.size < w8.heap.size := World.block_lt_of_cell? _ _ kc0
                  have zc_w8 := zc
                  replace hb0 : Below w.heap.size w w8 := (by repeat (first | with_reducible exact Below.refl _ _ | with_reducible assumption | with_reducible refine Below.setCell ?_ (by first | omega | (simp <;> omega)) _ | with_reducible refine balloc ?_ _ | with_reducible refine Below.drew ?_ | with_reducible refine bstep ?_ (by with_reducible assumption)))
                  have hs_w8 := hb.size; (try simp only [World.size_alloc, World.size_setCell] at hs_w8)
                  clear hb
                  go_wp2_with fail
                  refine Calls.mono (ME2 _ (by repeat (first | with_reducible exact Below.refl _ _ | with_reducible assumption | with_reducible refine Below.setCell ?_ (by first | omega | (simp <;> omega)) _ | with_reducible refine balloc ?_ _ | with_reducible refine Below.drew ?_ | with_reducible refine bstep ?_ (by with_reducible assumption)))) ?_
                  rintro e w9 ⟨v4, rfl, hs4, hfr4, hb⟩
                  have hcx : Below w8.heap.size w8 w9 := (by repeat (first | with_reducible exact Below.refl _ _ | with_reducible assumption | with_reducible refine Below.setCell ?_ (by first | omega | (simp <;> omega)) _ | with_reducible refine balloc ?_ _ | with_reducible refine Below.drew ?_ | with_reducible refine bstep ?_ (by with_reducible assumption)))
                  replace hs3 := hs3.below hcx
                  clear hcx
                  replace kt0 := cell_later hb (cell_al _ kt0)
                  replace kt1 := cell_later hb (cell_al _ kt1)
                  replace kt2 := cell_later hb (cell_al _ kt2)
                  replace ku0 := cell_later hb (cell_al _ ku0)
                  replace ku1 := cell_later hb (cell_al _ ku1)
                  replace ku2 := cell_later hb (cell_al _ ku2)
                  replace kj0 := cell_later hb (cell_al _ kj0)
                  replace kj1 := cell_later hb (cell_al _ kj1)
                  replace kj2 := cell_later hb (cell_al _ kj2)
                  replace ka0 := cell_later hb (cell_al _ ka0)
                  replace ka1 := cell_later hb (cell_al _ ka1)
                  replace kb0 := cell_later hb (cell_al _ kb0)
                  replace kb1 := cell_later hb (cell_al _ kb1)
                  replace kc0 := cell_later hb (cell_al _ kc0)
                  replace kc1 := cell_later hb (cell_al _ kc1)
                  have kd0 : w9.cell? ⟨w8.heap.size, 0, none⟩ = some (.int .i64 c1) := cell_later hb (by go_simp)
                  have kd1 : w9.cell? ⟨w8.heap.size, 1, none⟩ = some (.int .i64 c2) := cell_later hb (by go_simp)
                  replace zt : w.heap.size < w9.heap.size := World.block_lt_of_cell? _ _ kt0
                  have zt_w9 := zt
                  replace zu : w.heap.size + 1 < w9.heap.size := World.block_lt_of_cell? _ _ ku0
                  have zu_w9 := zu
                  replace zj : w4.heap.size < w9.heap.size := World.block_lt_of_cell? _ _ kj0
                  have zj_w9 := zj
                  replace za : w5.heap.size < w9.heap.size := World.block_lt_of_cell? _ _ ka0
                  have za_w9 := za
                  replace zb : w6.heap.size < w9.heap.size := World.block_lt_of_cell? _ _ kb0
                  have zb_w9 := zb
                  replace zc : w7.heap.size < w9.heap.size := World.block_lt_of_cell? _ _ kc0
                  have zc_w9 := zc
                  have zd : w8.heap.size < w9.heap.size := World.block_lt_of_cell? _ _ kd0
                  have zd_w9 := zd
                  replace hb0 : Below w.heap.size w w9 := (by repeat (first | with_reducible exact Below.refl _ _ | with_reducible assumption | with_reducible refine Below.setCell ?_ (by first | omega | (simp <;> omega)) _ | with_reducible refine balloc ?_ _ | with_reducible refine Below.drew ?_ | with_reducible refine bstep ?_ (by with_reducible assumption)))
                  have hs_w9 := hb.size; (try simp only [World.size_alloc, World.size_setCell] at hs_w9)
                  clear hb
                  obtain ⟨⟨pp4, cap4, rfl, _, _, _⟩, _⟩ := id hs4
                  rw [HML.out] at hs4 ⊢
                  go_wp2_with fail
                  refine Calls.mono (MB2 _ (by repeat (first | with_reducible exact Below.refl _ _ | with_reducible assumption | with_reducible refine Below.setCell ?_ (by first | omega | (simp <;> omega)) _ | with_reducible refine balloc ?_ _ | with_reducible refine Below.drew ?_ | with_reducible refine bstep ?_ (by with_reducible assumption)))) ?_
                  rintro e w10 ⟨v5, rfl, hs5, hfr5, hb⟩
                  have hcx : Below w9.heap.size w9 w10 := (by repeat (first | with_reducible exact Below.refl _ _ | with_reducible assumption | with_reducible refine Below.setCell ?_ (by first | omega | (simp <;> omega)) _ | with_reducible refine balloc ?_ _ | with_reducible refine Below.drew ?_ | with_reducible refine bstep ?_ (by with_reducible assumption)))
                  replace hs3 := hs3.below hcx
                  replace hs4 := hs4.below hcx
                  clear hcx
                  replace kt0 := cell_later hb (cell_al _ kt0)
                  replace kt1 := cell_later hb (cell_al _ kt1)
                  replace kt2 := cell_later hb (cell_al _ kt2)
                  replace ku0 := cell_later hb (cell_al _ ku0)
                  replace ku1 := cell_later hb (cell_al _ ku1)
                  replace ku2 := cell_later hb (cell_al _ ku2)
                  replace kj0 := cell_later hb (cell_al _ kj0)
                  replace kj1 := cell_later hb (cell_al _ kj1)
                  replace kj2 := cell_later hb (cell_al _ kj2)
                  replace ka0 := cell_later hb (cell_al _ ka0)
                  replace ka1 := cell_later hb (cell_al _ ka1)
                  replace kb0 := cell_later hb (cell_al _ kb0)
                  replace kb1 := cell_later hb (cell_al _ kb1)
                  replace kc0 := cell_later hb (cell_al _ kc0)
                  replace kc1 := cell_later hb (cell_al _ kc1)
                  replace kd0 := cell_later hb (cell_al _ kd0)
                  replace kd1 := cell_later hb (cell_al _ kd1)
                  have km0 : w10.cell? ⟨w9.heap.size, 0, none⟩ = some (.int .i64 s) := cell_later hb (by go_simp)
                  have km1 : w10.cell? ⟨w9.heap.size, 1, none⟩ = some (.int .i64 p) := cell_later hb (by go_simp)
                  have km2 : w10.cell? ⟨w9.heap.size, 2, none⟩ = some (.slice pp4 l.length cap4) := cell_later hb (by go_simp)
                  replace zt : w.heap.size < w10.heap.size := World.block_lt_of_cell? _ _ kt0
                  have zt_w10 := zt
                  replace zu : w.heap.size + 1 < w10.heap.size := World.block_lt_of_cell? _ _ ku0
                  have zu_w10 := zu
                  replace zj : w4.heap.size < w10.heap.size := World.block_lt_of_cell? _ _ kj0
                  have zj_w10 := zj
                  replace za : w5.heap.size < w10.heap.size := World.block_lt_of_cell? _ _ ka0
                  have za_w10 := za
                  replace zb : w6.heap.size < w10.heap.size := World.block_lt_of_cell? _ _ kb0
                  have zb_w10 := zb
                  replace zc : w7.heap.size < w10.heap.size := World.block_lt_of_cell? _ _ kc0
                  have zc_w10 := zc
                  replace zd : w8.heap.size < w10.heap.size := World.block_lt_of_cell? _ _ kd0
                  have zd_w10 := zd
                  have zm : w9.heap.size < w10.heap.size := World.block_lt_of_cell? _ _ km0
                  have zm_w10 := zm
                  replace hb0 : Below w.heap.size w w10 := (by repeat (first | with_reducible exact Below.refl _ _ | with_reducible assumption | with_reducible refine Below.setCell ?_ (by first | omega | (simp <;> omega)) _ | with_reducible refine balloc ?_ _ | with_reducible refine Below.drew ?_ | with_reducible refine bstep ?_ (by with_reducible assumption)))
                  have hs_w10 := hb.size; (try simp only [World.size_alloc, World.size_setCell] at hs_w10)
                  clear hb
                  obtain ⟨⟨pp5, cap5, rfl, _, _, _⟩, _⟩ := id hs5
                  rw [HML.out] at hs5 ⊢
                  go_wp2_with fail
                  refine Calls.mono (HM _ _ (hs4.below (by repeat (first | with_reducible exact Below.refl _ _ | with_reducible assumption | with_reducible refine Below.setCell ?_ (by first | omega | (simp <;> omega)) _ | with_reducible refine balloc ?_ _ | with_reducible refine Below.drew ?_ | with_reducible refine bstep ?_ (by with_reducible assumption))))) ?_
                  rintro e w11 ⟨rfl, hb⟩
                  have hcx : Below w10.heap.size w10 w11 := (by repeat (first | with_reducible exact Below.refl _ _ | with_reducible assumption | with_reducible refine Below.setCell ?_ (by first | omega | (simp <;> omega)) _ | with_reducible refine balloc ?_ _ | with_reducible refine Below.drew ?_ | with_reducible refine bstep ?_ (by with_reducible assumption)))
                  replace hs3 := hs3.below hcx
                  replace hs4 := hs4.below hcx
                  replace hs5 := hs5.below hcx
                  clear hcx
                  replace kt0 := cell_later hb (cell_al _ kt0)
                  replace kt1 := cell_later hb (cell_al _ kt1)
                  replace kt2 := cell_later hb (cell_al _ kt2)
                  replace ku0 := cell_later hb (cell_al _ ku0)
                  replace ku1 := cell_later hb (cell_al _ ku1)
                  replace ku2 := cell_later hb (cell_al _ ku2)
                  replace kj0 := cell_later hb (cell_al _ kj0)
                  replace kj1 := cell_later hb (cell_al _ kj1)
                  replace kj2 := cell_later hb (cell_al _ kj2)
                  replace ka0 := cell_later hb (cell_al _ ka0)
                  replace ka1 := cell_later hb (cell_al _ ka1)
                  replace kb0 := cell_later hb (cell_al _ kb0)
                  replace kb1 := cell_later hb (cell_al _ kb1)
                  replace kc0 := cell_later hb (cell_al _ kc0)
                  replace kc1 := cell_later hb (cell_al _ kc1)
                  replace kd0 := cell_later hb (cell_al _ kd0)
                  replace kd1 := cell_later hb (cell_al _ kd1)
                  replace km0 := cell_later hb (cell_al _ km0)
                  replace km1 := cell_later hb (cell_al _ km1)
                  replace km2 := cell_later hb (cell_al _ km2)
                  have kk0 : w11.cell? ⟨w10.heap.size, 0, none⟩ = some (.int .i64 s) := cell_later hb (by go_simp)
                  have kk1 : w11.cell? ⟨w10.heap.size, 1, none⟩ = some (.int .i64 p) := cell_later hb (by go_simp)
                  have kk2 : w11.cell? ⟨w10.heap.size, 2, none⟩ = some (.slice pp5 l.length cap5) := cell_later hb (by go_simp)
                  replace zt : w.heap.size < w11.heap.size := World.block_lt_of_cell? _ _ kt0
                  have zt_w11 := zt
                  replace zu : w.heap.size + 1 < w11.heap.size := World.block_lt_of_cell? _ _ ku0
                  have zu_w11 := zu
                  replace zj : w4.heap.size < w11.heap.size := World.block_lt_of_cell? _ _ kj0
                  have zj_w11 := zj
                  replace za : w5.heap.size < w11.heap.size := World.block_lt_of_cell? _ _ ka0
                  have za_w11 := za
                  replace zb : w6.heap.size < w11.heap.size := World.block_lt_of_cell? _ _ kb0
                  have zb_w11 := zb
                  replace zc : w7.heap.size < w11.heap.size := World.block_lt_of_cell? _ _ kc0
                  have zc_w11 := zc
                  replace zd : w8.heap.size < w11.heap.size := World.block_lt_of_cell? _ _ kd0
                  have zd_w11 := zd
                  replace zm : w9.heap.size < w11.heap.size := World.block_lt_of_cell? _ _ km0
                  have zm_w11 := zm
                  have zk : w10.heap.size < w11.heap.size := World.block_lt_of_cell? _ _ kk0
                  have zk_w11 := zk
                  replace hb0 : Below w.heap.size w w11 := (by repeat (first | with_reducible exact Below.refl _ _ | with_reducible assumption | with_reducible refine Below.setCell ?_ (by first | omega | (simp <;> omega)) _ | with_reducible refine balloc ?_ _ | with_reducible refine Below.drew ?_ | with_reducible refine bstep ?_ (by with_reducible assumption)))
                  have hs_w11 := hb.size; (try simp only [World.size_alloc, World.size_setCell] at hs_w11)
                  clear hb
                  go_wp2_with fail
                  refine Calls.mono (WA _) ?_
                  rintro e w12 ⟨rfl, hb⟩
                  have hcx : Below w11.heap.size w11 w12 := (by repeat (first | with_reducible exact Below.refl _ _ | with_reducible assumption | with_reducible refine Below.setCell ?_ (by first | omega | (simp <;> omega)) _ | with_reducible refine balloc ?_ _ | with_reducible refine Below.drew ?_ | with_reducible refine bstep ?_ (by with_reducible assumption)))
                  replace hs3 := hs3.below hcx
                  replace hs4 := hs4.below hcx
                  replace hs5 := hs5.below hcx
                  clear hcx
                  replace kt0 := cell_later hb (cell_al _ kt0)
                  replace kt1 := cell_later hb (cell_al _ kt1)
                  replace kt2 := cell_later hb (cell_al _ kt2)
                  replace ku0 := cell_later hb (cell_al _ ku0)
                  replace ku1 := cell_later hb (cell_al _ ku1)
                  replace ku2 := cell_later hb (cell_al _ ku2)
                  replace kj0 := cell_later hb (cell_al _ kj0)
                  replace kj1 := cell_later hb (cell_al _ kj1)
                  replace kj2 := cell_later hb (cell_al _ kj2)
                  replace ka0 := cell_later hb (cell_al _ ka0)
                  replace ka1 := cell_later hb (cell_al _ ka1)
                  replace kb0 := cell_later hb (cell_al _ kb0)
                  replace kb1 := cell_later hb (cell_al _ kb1)
                  replace kc0 := cell_later hb (cell_al _ kc0)
                  replace kc1 := cell_later hb (cell_al _ kc1)
                  replace kd0 := cell_later hb (cell_al _ kd0)
                  replace kd1 := cell_later hb (cell_al _ kd1)
                  replace km0 := cell_later hb (cell_al _ km0)
                  replace km1 := cell_later hb (cell_al _ km1)
                  replace km2 := cell_later hb (cell_al _ km2)
                  replace kk0 := cell_later hb (cell_al _ kk0)
                  replace kk1 := cell_later hb (cell_al _ kk1)
                  replace kk2 := cell_later hb (cell_al _ kk2)
                  have ks0 : w12.cell? ⟨w11.heap.size, 0, none⟩ = some (.int .i64 d1) := cell_later hb (by go_simp)
                  have ks1 : w12.cell? ⟨w11.heap.size, 1, none⟩ = some (.int .i64 d2) := cell_later hb (by go_simp)
                  replace zt : w.heap.size < w12.heap.size := World.block_lt_of_cell? _ _ kt0
                  have zt_w12 := zt
                  replace zu : w.heap.size + 1 < w12.heap.size := World.block_lt_of_cell? _ _ ku0
                  have zu_w12 := zu
                  replace zj : w4.heap.size < w12.heap.size := World.block_lt_of_cell? _ _ kj0
                  have zj_w12 := zj
                  replace za : w5.heap.size < w12.heap.size := World.block_lt_of_cell? _ _ ka0
                  have za_w12 := za
                  replace zb : w6.heap.size < w12.heap.size := World.block_lt_of_cell? _ _ kb0
                  have zb_w12 := zb
                  replace zc : w7.heap.size < w12.heap.size := World.block_lt_of_cell? _ _ kc0
                  have zc_w12 := zc
                  replace zd : w8.heap.size < w12.heap.size := World.block_lt_of_cell? _ _ kd0
                  have zd_w12 := zd
                  replace zm : w9.heap.size < w12.heap.size := World.block_lt_of_cell? _ _ km0
                  have zm_w12 := zm
                  replace zk : w10.heap.size < w12.heap.size := World.block_lt_of_cell? _ _ kk0
                  have zk_w12 := zk
                  have zs : w11.heap.size < w12.heap.size := World.block_lt_of_cell? _ _ ks0
                  have zs_w12 := zs
                  replace hb0 : Below w.heap.size w w12 := (by repeat (first | with_reducible exact Below.refl _ _ | with_reducible assumption | with_reducible refine Below.setCell ?_ (by first | omega | (simp <;> omega)) _ | with_reducible refine balloc ?_ _ | with_reducible refine Below.drew ?_ | with_reducible refine bstep ?_ (by with_reducible assumption)))
                  have hs_w12 := hb.size; (try simp only [World.size_alloc, World.size_setCell] at hs_w12)
                  clear hb
                  go_wp2_with fail
                  refine Calls.mono (WB _) ?_
                  rintro e w13 ⟨rfl, hb⟩
                  have hcx : Below w12.heap.size w12 w13 := (by repeat (first | with_reducible exact Below.refl _ _ | with_reducible assumption | with_reducible refine Below.setCell ?_ (by first | omega | (simp <;> omega)) _ | with_reducible refine balloc ?_ _ | with_reducible refine Below.drew ?_ | with_reducible refine bstep ?_ (by with_reducible assumption)))
                  replace hs3 := hs3.below hcx
                  replace hs4 := hs4.below hcx
                  replace hs5 := hs5.below hcx
                  clear hcx
                  replace kt0 := cell_later hb kt0
                  replace kt1 := cell_later hb kt1
                  replace kt2 := cell_later hb kt2
                  replace ku0 := cell_later hb ku0
                  replace ku1 := cell_later hb ku1
                  replace ku2 := cell_later hb ku2
                  replace kj0 := cell_later hb kj0
                  replace kj1 := cell_later hb kj1
                  replace kj2 := cell_later hb kj2
                  replace ka0 := cell_later hb ka0
                  replace ka1 := cell_later hb ka1
                  replace kb0 := cell_later hb kb0
                  replace kb1 := cell_later hb kb1
                  replace kc0 := cell_later hb kc0
                  replace kc1 := cell_later hb kc1
                  replace kd0 := cell_later hb kd0
                  replace kd1 := cell_later hb kd1
                  replace km0 := cell_later hb km0
                  replace km1 := cell_later hb km1
                  replace km2 := cell_later hb km2
                  replace kk0 := cell_later hb kk0
                  replace kk1 := cell_later hb kk1
                  replace kk2 := cell_later hb kk2
                  replace ks0 := cell_later hb ks0
                  replace ks1 := cell_later hb ks1
                  replace zt : w.heap.size < w13.heap.size := World.block_lt_of_cell? _ _ kt0
                  have zt_w13 := zt
                  replace zu : w.heap.size + 1 < w13.heap.size := World.block_lt_of_cell? _ _ ku0
                  have zu_w13 := zu
                  replace zj : w4.heap.size < w13.heap.size := World.block_lt_of_cell? _ _ kj0
                  have zj_w13 := zj
                  replace za : w5.heap.size < w13.heap.size := World.block_lt_of_cell? _ _ ka0
                  have za_w13 := za
                  replace zb : w6.heap.size < w13.heap.size := World.block_lt_of_cell? _ _ kb0
                  have zb_w13 := zb
                  replace zc : w7.heap.size < w13.heap.size := World.block_lt_of_cell? _ _ kc0
                  have zc_w13 := zc
                  replace zd : w8.heap.size < w13.heap.size := World.block_lt_of_cell? _ _ kd0
                  have zd_w13 := zd
                  replace zm : w9.heap.size < w13.heap.size := World.block_lt_of_cell? _ _ km0
                  have zm_w13 := zm
                  replace zk : w10.heap.size < w13.heap.size := World.block_lt_of_cell? _ _ kk0
                  have zk_w13 := zk
                  replace zs : w11.heap.size < w13.heap.size := World.block_lt_of_cell? _ _ ks0
                  have zs_w13 := zs
                  replace hb0 : Below w.heap.size w w13 := (by repeat (first | with_reducible exact Below.refl _ _ | with_reducible assumption | with_reducible refine Below.setCell ?_ (by first | omega | (simp <;> omega)) _ | with_reducible refine balloc ?_ _ | with_reducible refine Below.drew ?_ | with_reducible refine bstep ?_ (by with_reducible assumption)))
                  have hs_w13 : w12.heap.size ≤ w13.heap.size := hb.size
                  clear hb
                  go_wp2_with fail
                  refine Calls.mono (same_t s p _ _ lm _ (hs4.below (by repeat (first | with_reducible exact Below.refl _ _ | with_reducible assumption | with_reducible refine Below.setCell ?_ (by first | omega | (simp <;> omega)) _ | with_reducible refine balloc ?_ _ | with_reducible refine Below.drew ?_ | with_reducible refine bstep ?_ (by with_reducible assumption)))) (hs5.below (by repeat (first | with_reducible exact Below.refl _ _ | with_reducible assumption | with_reducible refine Below.setCell ?_ (by first | omega | (simp <;> omega)) _ | with_reducible refine balloc ?_ _ | with_reducible refine Below.drew ?_ | with_reducible refine bstep ?_ (by with_reducible assumption))))) ?_
                  rintro e w14 ⟨rfl, hb⟩
                  have hcx : Below w13.heap.size w13 w14 := (by repeat (first | with_reducible exact Below.refl _ _ | with_reducible assumption | with_reducible refine Below.setCell ?_ (by first | omega | (simp <;> omega)) _ | with_reducible refine balloc ?_ _ | with_reducible refine Below.drew ?_ | with_reducible refine bstep ?_ (by with_reducible assumption)))
                  replace hs3 := hs3.below hcx
                  replace hs4 := hs4.below hcx
                  replace hs5 := hs5.below hcx
                  clear hcx
                  replace kt0 := cell_later hb kt0
                  replace kt1 := cell_later hb kt1
                  replace kt2 := cell_later hb kt2
                  replace ku0 := cell_later hb ku0
                  replace ku1 := cell_later hb ku1
                  replace ku2 := cell_later hb ku2
                  replace kj0 := cell_later hb kj0
                  replace kj1 := cell_later hb kj1
                  replace kj2 := cell_later hb kj2
                  replace ka0 := cell_later hb ka0
                  replace ka1 := cell_later hb ka1
                  replace kb0 := cell_later hb kb0
                  replace kb1 := cell_later hb kb1
                  replace kc0 := cell_later hb kc0
                  replace kc1 := cell_later hb kc1
                  replace kd0 := cell_later hb kd0
                  replace kd1 := cell_later hb kd1
                  replace km0 := cell_later hb km0
                  replace km1 := cell_later hb km1
                  replace km2 := cell_later hb km2
                  replace kk0 := cell_later hb kk0
                  replace kk1 := cell_later hb kk1
                  replace kk2 := cell_later hb kk2
                  replace ks0 := cell_later hb ks0
                  replace ks1 := cell_later hb ks1
                  replace zt : w.heap.size < w14.heap.size := World.block_lt_of_cell? _ _ kt0
                  have zt_w14 := zt
                  replace zu : w.heap.size + 1 < w14.heap.size := World.block_lt_of_cell? _ _ ku0
                  have zu_w14 := zu
                  replace zj : w4.heap.size < w14.heap.size := World.block_lt_of_cell? _ _ kj0
                  have zj_w14 := zj
                  replace za : w5.heap.size < w14.heap.size := World.block_lt_of_cell? _ _ ka0
                  have za_w14 := za
                  replace zb : w6.heap.size < w14.heap.size := World.block_lt_of_cell? _ _ kb0
                  have zb_w14 := zb
                  replace zc : w7.heap.size < w14.heap.size := World.block_lt_of_cell? _ _ kc0
                  have zc_w14 := zc
                  replace zd : w8.heap.size < w14.heap.size := World.block_lt_of_cell? _ _ kd0
                  have zd_w14 := zd
                  replace zm : w9.heap.size < w14.heap.size := World.block_lt_of_cell? _ _ km0
                  have zm_w14 := zm
                  replace zk : w10.heap.size < w14.heap.size := World.block_lt_of_cell? _ _ kk0
                  have zk_w14 := zk
                  replace zs : w11.heap.size < w14.heap.size := World.block_lt_of_cell? _ _ ks0
                  have zs_w14 := zs
                  replace hb0 : Below w.heap.size w w14 := (by repeat (first | with_reducible exact Below.refl _ _ | with_reducible assumption | with_reducible refine Below.setCell ?_ (by first | omega | (simp <;> omega)) _ | with_reducible refine balloc ?_ _ | with_reducible refine Below.drew ?_ | with_reducible refine bstep ?_ (by with_reducible assumption)))
                  have hs_w14 : w13.heap.size ≤ w14.heap.size := hb.size
                  clear hb
                  go_wp2
                  go_ret
                  exact ⟨rfl, (by repeat (first | with_reducible exact Below.refl _ _ | with_reducible assumption | with_reducible refine Below.setCell ?_ (by first | omega | (simp <;> omega)) _ | with_reducible refine balloc ?_ _ | with_reducible refine Below.drew ?_ | with_reducible refine bstep ?_ (by with_reducible assumption)))⟩
                · have q3 : c1 < need := by omega
                  have q4 : need ≤ d1 := by omega
                  clear hdn hcc hcn hc1
                  go_enter Try.func8, Try.ntmps8
                  go_wp2_with fail
                  refine Calls.mono (head_c _) ?_
                  rintro e w1 ⟨rfl, hb⟩
                  have kt0 : w1.cell? ⟨w.heap.size, 0, none⟩ = some (.int .i64 s) := cell_later hb (by go_simp)
                  have kt1 : w1.cell? ⟨w.heap.size, 1, none⟩ = some (.int .i64 p) := cell_later hb (by go_simp)
                  have kt2 : w1.cell? ⟨w.heap.size, 2, none⟩ = some (.slice pp l.length cap) := cell_later hb (by go_simp)
                  have ku0 : w1.cell? ⟨w.heap.size + 1, 0, none⟩ = some (.int .i64 s) := cell_later hb (by go_simp)
                  have ku1 : w1.cell? ⟨w.heap.size + 1, 1, none⟩ = some (.int .i64 p) := cell_later hb (by go_simp)
                  have ku2 : w1.cell? ⟨w.heap.size + 1, 2, none⟩ = some (.slice pp2 l2.length cap2) := cell_later hb (by go_simp)
                  have zt : w.heap.size < w1.heap.size := World.block_lt_of_cell? _ _ kt0
                  have zt_w1 := zt
                  have zu : w.heap.size + 1 < w1.heap.size := World.block_lt_of_cell? _ _ ku0
                  have zu_w1 := zu
                  have hb0 : Below w.heap.size w w1 := (by repeat (first | with_reducible exact Below.refl _ _ | with_reducible assumption | with_reducible refine Below.setCell ?_ (by first | omega | (simp <;> omega)) _ | with_reducible refine balloc ?_ _ | with_reducible refine Below.drew ?_ | with_reducible refine bstep ?_ (by with_reducible assumption)))
                  have hs_w1 := hb.size; (try simp only [World.size_alloc, World.size_setCell] at hs_w1)
                  clear hb
                  go_wp2_with fail
                  refine Calls.mono (F1 _ (by repeat (first | with_reducible exact Below.refl _ _ | with_reducible assumption | with_reducible refine Below.setCell ?_ (by first | omega | (simp <;> omega)) _ | with_reducible refine balloc ?_ _ | with_reducible refine Below.drew ?_ | with_reducible refine bstep ?_ (by with_reducible assumption)))) ?_
                  rintro e w2 ⟨rfl, hb⟩
                  replace kt0 := cell_later hb kt0
                  replace kt1 := cell_later hb kt1
                  replace kt2 := cell_later hb kt2
                  replace ku0 := cell_later hb ku0
                  replace ku1 := cell_later hb ku1
                  replace ku2 := cell_later hb ku2
                  replace zt : w.heap.size < w2.heap.size := World.block_lt_of_cell? _ _ kt0
                  have zt_w2 := zt
                  replace zu : w.heap.size + 1 < w2.heap.size := World.block_lt_of_cell? _ _ ku0
                  have zu_w2 := zu
                  replace hb0 : Below w.heap.size w w2 := (by repeat (first | with_reducible exact Below.refl _ _ | with_reducible assumption | with_reducible refine Below.setCell ?_ (by first | omega | (simp <;> omega)) _ | with_reducible refine balloc ?_ _ | with_reducible refine Below.drew ?_ | with_reducible refine bstep ?_ (by with_reducible assumption)))
                  have hs_w2 : w1.heap.size ≤ w2.heap.size := hb.size
                  clear hb
                  go_wp2_with fail
                  refine Calls.mono (F2 _ (by repeat (first | with_reducible exact Below.refl _ _ | with_reducible assumption | with_reducible refine Below.setCell ?_ (by first | omega | (simp <;> omega)) _ | with_reducible refine balloc ?_ _ | with_reducible refine Below.drew ?_ | with_reducible refine bstep ?_ (by with_reducible assumption)))) ?_
                  rintro e w3 ⟨rfl, hb⟩
                  replace kt0 := cell_later hb kt0
                  replace kt1 := cell_later hb kt1
                  replace kt2 := cell_later hb kt2
                  replace ku0 := cell_later hb ku0
                  replace ku1 := cell_later hb ku1
                  replace ku2 := cell_later hb ku2
                  replace zt : w.heap.size < w3.heap.size := World.block_lt_of_cell? _ _ kt0
                  have zt_w3 := zt
                  replace zu : w.heap.size + 1 < w3.heap.size := World.block_lt_of_cell? _ _ ku0
                  have zu_w3 := zu
                  replace hb0 : Below w.heap.size w w3 := (by repeat (first | with_reducible exact Below.refl _ _ | with_reducible assumption | with_reducible refine Below.setCell ?_ (by first | omega | (simp <;> omega)) _ | with_reducible refine balloc ?_ _ | with_reducible refine Below.drew ?_ | with_reducible refine bstep ?_ (by with_reducible assumption)))
                  have hs_w3 : w2.heap.size ≤ w3.heap.size := hb.size
                  clear hb
                  go_wp2_with fail
                  refine Calls.mono (JO2 _ (by repeat (first | with_reducible exact Below.refl _ _ | with_reducible assumption | with_reducible refine Below.setCell ?_ (by first | omega | (simp <;> omega)) _ | with_reducible refine balloc ?_ _ | with_reducible refine Below.drew ?_ | with_reducible refine bstep ?_ (by with_reducible assumption)))) ?_
                  rintro e w4 ⟨v3, rfl, hs3, hfr3, hb⟩
                  replace kt0 := cell_later hb kt0
                  replace kt1 := cell_later hb kt1
                  replace kt2 := cell_later hb kt2
                  replace ku0 := cell_later hb ku0
                  replace ku1 := cell_later hb ku1
                  replace ku2 := cell_later hb ku2
                  replace zt : w.heap.size < w4.heap.size := World.block_lt_of_cell? _ _ kt0
                  have zt_w4 := zt
                  replace zu : w.heap.size + 1 < w4.heap.size := World.block_lt_of_cell? _ _ ku0
                  have zu_w4 := zu
                  replace hb0 : Below w.heap.size w w4 := (by repeat (first | with_reducible exact Below.refl _ _ | with_reducible assumption | with_reducible refine Below.setCell ?_ (by first | omega | (simp <;> omega)) _ | with_reducible refine balloc ?_ _ | with_reducible refine Below.drew ?_ | with_reducible refine bstep ?_ (by with_reducible assumption)))
                  have hs_w4 : w3.heap.size ≤ w4.heap.size := hb.size
                  clear hb
                  obtain ⟨⟨pp3, cap3, rfl, _, _, _⟩, _⟩ := id hs3
                  rw [HJL.out] at hs3 ⊢
                  go_wp2_with fail
                  refine Calls.mono (HA _ (by repeat (first | with_reducible exact Below.refl _ _ | with_reducible assumption | with_reducible refine Below.setCell ?_ (by first | omega | (simp <;> omega)) _ | with_reducible refine balloc ?_ _ | with_reducible refine Below.drew ?_ | with_reducible refine bstep ?_ (by with_reducible assumption)))) ?_
                  rintro e w5 ⟨rfl, hb⟩
                  have hcx : Below w4.heap.size w4 w5 := (by repeat (first | with_reducible exact Below.refl _ _ | with_reducible assumption | with_reducible refine Below.setCell ?_ (by first | omega | (simp <;> omega)) _ | with_reducible refine balloc ?_ _ | with_reducible refine Below.drew ?_ | with_reducible refine bstep ?_ (by with_reducible assumption)))
                  replace hs3 := hs3.below hcx
                  clear hcx
                  replace kt0 := cell_later hb (cell_al _ kt0)
                  replace kt1 := cell_later hb (cell_al _ kt1)
                  replace kt2 := cell_later hb (cell_al _ kt2)
                  replace ku0 := cell_later hb (cell_al _ ku0)
                  replace ku1 := cell_later hb (cell_al _ ku1)
                  replace ku2 := cell_later hb (cell_al _ ku2)
                  have kj0 : w5.cell? ⟨w4.heap.size, 0, none⟩ = some (.int .i64 s) := cell_later hb (by go_simp)
                  have kj1 : w5.cell? ⟨w4.heap.size, 1, none⟩ = some (.int .i64 p) := cell_later hb (by go_simp)
                  have kj2 : w5.cell? ⟨w4.heap.size, 2, none⟩ = some (.slice pp3 l.length cap3) := cell_later hb (by go_simp)
                  replace zt : w.heap.size < w5.heap.size := World.block_lt_of_cell? _ _ kt0
                  have zt_w5 := zt
                  replace zu : w.heap.size + 1 < w5.heap.size := World.block_lt_of_cell? _ _ ku0
                  have zu_w5 := zu
                  have zj : w4.heap.size < w5.heap.size := World.block_lt_of_cell? _ _ kj0
                  have zj_w5 := zj
                  replace hb0 : Below w.heap.size w w5 := (by repeat (first | with_reducible exact Below.refl _ _ | with_reducible assumption | with_reducible refine Below.setCell ?_ (by first | omega | (simp <;> omega)) _ | with_reducible refine balloc ?_ _ | with_reducible refine Below.drew ?_ | with_reducible refine bstep ?_ (by with_reducible assumption)))
                  have hs_w5 := hb.size; (try simp only [World.size_alloc, World.size_setCell] at hs_w5)
                  clear hb
                  go_wp2_with fail
                  refine Calls.mono (HB _ (by repeat (first | with_reducible exact Below.refl _ _ | with_reducible assumption | with_reducible refine Below.setCell ?_ (by first | omega | (simp <;> omega)) _ | with_reducible refine balloc ?_ _ | with_reducible refine Below.drew ?_ | with_reducible refine bstep ?_ (by with_reducible assumption)))) ?_
                  rintro e w6 ⟨rfl, hb⟩
                  have hcx : Below w5.heap.size w5 w6 := (by repeat (first | with_reducible exact Below.refl _ _ | with_reducible assumption | with_reducible refine Below.setCell ?_ (by first | omega | (simp <;> omega)) _ | with_reducible refine balloc ?_ _ | with_reducible refine Below.drew ?_ | with_reducible refine bstep ?_ (by with_reducible assumption)))
                  replace hs3 := hs3.below hcx
                  clear hcx
                  replace kt0 := cell_later hb (cell_al _ kt0)
                  replace kt1 := cell_later hb (cell_al _ kt1)
                  replace kt2 := cell_later hb (cell_al _ kt2)
                  replace ku0 := cell_later hb (cell_al _ ku0)
                  replace ku1 := cell_later hb (cell_al _ ku1)
                  replace ku2 := cell_later hb (cell_al _ ku2)
                  replace kj0 := cell_later hb (cell_al _ kj0)
                  replace kj1 := cell_later hb (cell_al _ kj1)
                  replace kj2 := cell_later hb (cell_al _ kj2)
                  have ka0 : w6.cell? ⟨w5.heap.size, 0, none⟩ = some (.int .i64 a1) := cell_later hb (by go_simp)
                  have ka1 : w6.cell? ⟨w5.heap.size, 1, none⟩ = some (.int .i64 a2) := cell_later hb (by go_simp)
                  replace zt : w.heap.size < w6.heap.size := World.block_lt_of_cell? _ _ kt0
                  have zt_w6 := zt
                  replace zu : w.heap.size + 1 < w6.heap.size := World.block_lt_of_cell? _ _ ku0
                  have zu_w6 := zu
                  replace zj : w4.heap.size < w6.heap.size := World.block_lt_of_cell? _ _ kj0
                  have zj_w6 := zj
                  have za : w5.heap.size < w6.heap.size := World.block_lt_of_cell? _ _ ka0
                  have za_w6 := za
                  replace hb0 : Below w.heap.size w w6 := (by repeat (first | with_reducible exact Below.refl _ _ | with_reducible assumption | with_reducible refine Below.setCell ?_ (by first | omega | (simp <;> omega)) _ | with_reducible refine balloc ?_ _ | with_reducible refine Below.drew ?_ | with_reducible refine bstep ?_ (by with_reducible assumption)))
                  have hs_w6 := hb.size; (try simp only [World.size_alloc, World.size_setCell] at hs_w6)
                  clear hb
                  go_wp2_with fail
                  refine Calls.mono (HJ _ _ (hs3.below (by repeat (first | with_reducible exact Below.refl _ _ | with_reducible assumption | with_reducible refine Below.setCell ?_ (by first | omega | (simp <;> omega)) _ | with_reducible refine balloc ?_ _ | with_reducible refine Below.drew ?_ | with_reducible refine bstep ?_ (by with_reducible assumption))))) ?_
                  rintro e w7 ⟨rfl, hb⟩
                  have hcx : Below w6.heap.size w6 w7 := (by repeat (first | with_reducible exact Below.refl _ _ | with_reducible assumption | with_reducible refine Below.setCell ?_ (by first | omega | (simp <;> omega)) _ | with_reducible refine balloc ?_ _ | with_reducible refine Below.drew ?_ | with_reducible refine bstep ?_ (by with_reducible assumption)))
                  replace hs3 := hs3.below hcx
                  clear hcx
                  replace kt0 := cell_later hb (cell_al _ kt0)
                  replace kt1 := cell_later hb (cell_al _ kt1)
                  replace kt2 := cell_later hb (cell_al _ kt2)
                  replace ku0 := cell_later hb (cell_al _ ku0)
                  replace ku1 := cell_later hb (cell_al _ ku1)
                  replace ku2 := cell_later hb (cell_al _ ku2)
                  replace kj0 := cell_later hb (cell_al _ kj0)
                  replace kj1 := cell_later hb (cell_al _ kj1)
                  replace kj2 := cell_later hb (cell_al _ kj2)
                  replace ka0 := cell_later hb (cell_al _ ka0)
                  replace ka1 := cell_later hb (cell_al _ ka1)
                  have kb0 : w7.cell? ⟨w6.heap.size, 0, none⟩ = some (.int .i64 b1) := cell_later hb (by go_simp)
                  have kb1 : w7.cell? ⟨w6.heap.size, 1, none⟩ = some (.int .i64 b2) := cell_later hb (by go_simp)
                  replace zt : w.heap.size < w7.heap.size := World.block_lt_of_cell? _ _ kt0
                  have zt_w7 := zt
                  replace zu : w.heap.size + 1 < w7.heap.size := World.block_lt_of_cell? _ _ ku0
                  have zu_w7 := zu
                  replace zj : w4.heap.size < w7.heap.size := World.block_lt_of_cell? _ _ kj0
                  have zj_w7 := zj
                  replace za : w5.heap.size < w7.heap.size := World.block_lt_of_cell? _ _ ka0
                  have za_w7 := za
                  have zb : w6.heap.size < w7.heap.size := World.block_lt_of_cell? _ _ kb0
                  have zb_w7 := zb
                  replace hb0 : Below w.heap.size w w7 := (by repeat (first | with_reducible exact Below.refl _ _ | with_reducible assumption | with_reducible refine Below.setCell ?_ (by first | omega | (simp <;> omega)) _ | with_reducible refine balloc ?_ _ | with_reducible refine Below.drew ?_ | with_reducible refine bstep ?_ (by with_reducible assumption)))
                  have hs_w7 := hb.size; (try simp only [World.size_alloc, World.size_setCell] at hs_w7)
                  clear hb
                  go_wp2_with fail
                  refine Calls.mono (JJ _) ?_
                  rintro e w8 ⟨rfl, hb⟩
                  have hcx : Below w7.heap.size w7 w8 := (by repeat (first | with_reducible exact Below.refl _ _ | with_reducible assumption | with_reducible refine Below.setCell ?_ (by first | omega | (simp <;> omega)) _ | with_reducible refine balloc ?_ _ | with_reducible refine Below.drew ?_ | with_reducible refine bstep ?_ (by with_reducible assumption)))
                  replace hs3 := hs3.below hcx
                  clear hcx
                  replace kt0 := cell_later hb (cell_al _ kt0)
                  replace kt1 := cell_later hb (cell_al _ kt1)
                  replace kt2 := cell_later hb (cell_al _ kt2)
                  replace ku0 := cell_later hb (cell_al _ ku0)
                  replace ku1 := cell_later hb (cell_al _ ku1)
                  replace ku2 := cell_later hb (cell_al _ ku2)
                  replace kj0 := cell_later hb (cell_al _ kj0)
                  replace kj1 := cell_later hb (cell_al _ kj1)
                  replace kj2 := cell_later hb (cell_al _ kj2)
                  replace ka0 := cell_later hb (cell_al _ ka0)
                  replace ka1 := cell_later hb (cell_al _ ka1)
                  replace kb0 := cell_later hb (cell_al _ kb0)
                  replace kb1 := cell_later hb (cell_al _ kb1)
                  have kc0 : w8.cell? ⟨w7.heap.size, 0, none⟩ = some (.int .i64 c1) := cell_later hb (by go_simp)
                  have kc1 : w8.cell? ⟨w7.heap.size, 1, none⟩ = some (.int .i64 c2) := cell_later hb (by go_simp)
                  replace zt : w.heap.size < w8.heap.size := World.block_lt_of_cell? _ _ kt0
                  have zt_w8 := zt
                  replace zu : w.heap.size + 1 < w8.heap.size := World.block_lt_of_cell? _ _ ku0
                  have zu_w8 := zu
                  replace zj : w4.heap.size < w8.heap.size := World.block_lt_of_cell? _ _ kj0
                  have zj_w8 := zj
                  replace za : w5.heap.size < w8.heap.size := World.block_lt_of_cell? _ _ ka0
                  have za_w8 := za
                  replace zb : w6.heap.size < w8.heap.size := World.block_lt_of_cell? _ _ kb0
                  have zb_w8 := zb
                  have zc : w7.heap.size < w8.heap.size := World.block_lt_of_cell? _ _ kc0
                  have zc_w8 := zc
                  replace hb0 : Below w.heap.size w w8 := (by repeat (first | with_reducible exact Below.refl _ _ | with_reducible assumption | with_reducible refine Below.setCell ?_ (by first | omega | (simp <;> omega)) _ | with_reducible refine balloc ?_ _ | with_reducible refine Below.drew ?_ | with_reducible refine bstep ?_ (by with_reducible assumption)))
                  have hs_w8 := hb.size; (try simp only [World.size_alloc, World.size_setCell] at hs_w8)
                  clear hb
                  go_wp2_with fail
                  refine Calls.mono (ME2 _ (by repeat (first | with_reducible exact Below.refl _ _ | with_reducible assumption | with_reducible refine Below.setCell ?_ (by first | omega | (simp <;> omega)) _ | with_reducible refine balloc ?_ _ | with_reducible refine Below.drew ?_ | with_reducible refine bstep ?_ (by with_reducible assumption)))) ?_
                  rintro e w9 ⟨v4, rfl, hs4, hfr4, hb⟩
                  have hcx : Below w8.heap.size w8 w9 := (by repeat (first | with_reducible exact Below.refl _ _ | with_reducible assumption | with_reducible refine Below.setCell ?_ (by first | omega | (simp <;> omega)) _ | with_reducible refine balloc ?_ _ | with_reducible refine Below.drew ?_ | with_reducible refine bstep ?_ (by with_reducible assumption)))
                  replace hs3 := hs3.below hcx
                  clear hcx
                  replace kt0 := cell_later hb (cell_al _ kt0)
                  replace kt1 := cell_later hb (cell_al _ kt1)
                  replace kt2 := cell_later hb (cell_al _ kt2)
                  replace ku0 := cell_later hb (cell_al _ ku0)
                  replace ku1 := cell_later hb (cell_al _ ku1)
                  replace ku2 := cell_later hb (cell_al _ ku2)
                  replace kj0 := cell_later hb (cell_al _ kj0)
                  replace kj1 := cell_later hb (cell_al _ kj1)
                  replace kj2 := cell_later hb (cell_al _ kj2)
                  replace ka0 := cell_later hb (cell_al _ ka0)
                  replace ka1 := cell_later hb (cell_al _ ka1)
                  replace kb0 := cell_later hb (cell_al _ kb0)
                  replace kb1 := cell_later hb (cell_al _ kb1)
                  replace kc0 := cell_later hb (cell_al _ kc0)
                  replace kc1 := cell_later hb (cell_al _ kc1)
                  have kd0 : w9.cell? ⟨w8.heap.size, 0, none⟩ = some (.int .i64 c1) := cell_later hb (by go_simp)
                  have kd1 : w9.cell? ⟨w8.heap.size, 1, none⟩ = some (.int .i64 c2) := cell_later hb (by go_simp)
                  replace zt : w.heap.size < w9.heap.size := World.block_lt_of_cell? _ _ kt0
                  have zt_w9 := zt
                  replace zu : w.heap.size + 1 < w9.heap.size := World.block_lt_of_cell? _ _ ku0
                  have zu_w9 := zu
                  replace zj : w4.heap.size < w9.heap.size := World.block_lt_of_cell? _ _ kj0
                  have zj_w9 := zj
                  replace za : w5.heap.size < w9.heap.size := World.block_lt_of_cell? _ _ ka0
                  have za_w9 := za
                  replace zb : w6.heap.size < w9.heap.size := World.block_lt_of_cell? _ _ kb0
                  have zb_w9 := zb
                  replace zc : w7.heap.size < w9.heap.size := World.block_lt_of_cell? _ _ kc0
                  have zc_w9 := zc
                  have zd : w8.heap.size < w9.heap.size := World.block_lt_of_cell? _ _ kd0
                  have zd_w9 := zd
                  replace hb0 : Below w.heap.size w w9 := (by repeat (first | with_reducible exact Below.refl _ _ | with_reducible assumption | with_reducible refine Below.setCell ?_ (by first | omega | (simp <;> omega)) _ | with_reducible refine balloc ?_ _ | with_reducible refine Below.drew ?_ | with_reducible refine bstep ?_ (by with_reducible assumption)))
                  have hs_w9 := hb.size; (try simp only [World.size_alloc, World.size_setCell] at hs_w9)
                  clear hb
                  obtain ⟨⟨pp4, cap4, rfl, _, _, _⟩, _⟩ := id hs4
                  rw [HML.out] at hs4 ⊢
                  go_wp2_with fail
                  refine Calls.mono (MB2 _ (by repeat (first | with_reducible exact Below.refl _ _ | with_reducible assumption | with_reducible refine Below.setCell ?_ (by first | omega | (simp <;> omega)) _ | with_reducible refine balloc ?_ _ | with_reducible refine Below.drew ?_ | with_reducible refine bstep ?_ (by with_reducible assumption)))) ?_
                  rintro e w10 ⟨v5, rfl, hs5, hfr5, hb⟩
                  have hcx : Below w9.heap.size w9 w10 := (by repeat (first | with_reducible exact Below.refl _ _ | with_reducible assumption | with_reducible refine Below.setCell ?_ (by first | omega | (simp <;> omega)) _ | with_reducible refine balloc ?_ _ | with_reducible refine Below.drew ?_ | with_reducible refine bstep ?_ (by with_reducible assumption)))
                  replace hs3 := hs3.below hcx
                  replace hs4 := hs4.below hcx
                  clear hcx
                  replace kt0 := cell_later hb (cell_al _ kt0)
                  replace kt1 := cell_later hb (cell_al _ kt1)
                  replace kt2 := cell_later hb (cell_al _ kt2)
                  replace ku0 := cell_later hb (cell_al _ ku0)
                  replace ku1 := cell_later hb (cell_al _ ku1)
                  replace ku2 := cell_later hb (cell_al _ ku2)
                  replace kj0 := cell_later hb (cell_al _ kj0)
                  replace kj1 := cell_later hb (cell_al _ kj1)
                  replace kj2 := cell_later hb (cell_al _ kj2)
                  replace ka0 := cell_later hb (cell_al _ ka0)
                  replace ka1 := cell_later hb (cell_al _ ka1)
                  replace kb0 := cell_later hb (cell_al _ kb0)
                  replace kb1 := cell_later hb (cell_al _ kb1)
                  replace kc0 := cell_later hb (cell_al _ kc0)
                  replace kc1 := cell_later hb (cell_al _ kc1)
                  replace kd0 := cell_later hb (cell_al _ kd0)
                  replace kd1 := cell_later hb (cell_al _ kd1)
                  have km0 : w10.cell? ⟨w9.heap.size, 0, none⟩ = some (.int .i64 s) := cell_later hb (by go_simp)
                  have km1 : w10.cell? ⟨w9.heap.size, 1, none⟩ = some (.int .i64 p) := cell_later hb (by go_simp)
                  have km2 : w10.cell? ⟨w9.heap.size, 2, none⟩ = some (.slice pp4 l.length cap4) := cell_later hb (by go_simp)
                  replace zt : w.heap.size < w10.heap.size := World.block_lt_of_cell? _ _ kt0
                  have zt_w10 := zt
                  replace zu : w.heap.size + 1 < w10.heap.size := World.block_lt_of_cell? _ _ ku0
                  have zu_w10 := zu
                  replace zj : w4.heap.size < w10.heap.size := World.block_lt_of_cell? _ _ kj0
                  have zj_w10 := zj
                  replace za : w5.heap.size < w10.heap.size := World.block_lt_of_cell? _ _ ka0
                  have za_w10 := za
                  replace zb : w6.heap.size < w10.heap.size := World.block_lt_of_cell? _ _ kb0
                  have zb_w10 := zb
                  replace zc : w7.heap.size < w10.heap.size := World.block_lt_of_cell? _ _ kc0
                  have zc_w10 := zc
                  replace zd : w8.heap.size < w10.heap.size := World.block_lt_of_cell? _ _ kd0
                  have zd_w10 := zd
                  have zm : w9.heap.size < w10.heap.size := World.block_lt_of_cell? _ _ km0
                  have zm_w10 := zm
                  replace hb0 : Below w.heap.size w w10 := (by repeat (first | with_reducible exact Below.refl _ _ | with_reducible assumption | with_reducible refine Below.setCell ?_ (by first | omega | (simp <;> omega)) _ | with_reducible refine balloc ?_ _ | with_reducible refine Below.drew ?_ | with_reducible refine bstep ?_ (by with_reducible assumption)))
                  have hs_w10 := hb.size; (try simp only [World.size_alloc, World.size_setCell] at hs_w10)
                  clear hb
                  obtain ⟨⟨pp5, cap5, rfl, _, _, _⟩, _⟩ := id hs5
                  rw [HML.out] at hs5 ⊢
                  go_wp2_with fail
                  refine Calls.mono (HM _ _ (hs4.below (by repeat (first | with_reducible exact Below.refl _ _ | with_reducible assumption | with_reducible refine Below.setCell ?_ (by first | omega | (simp <;> omega)) _ | with_reducible refine balloc ?_ _ | with_reducible refine Below.drew ?_ | with_reducible refine bstep ?_ (by with_reducible assumption))))) ?_
                  rintro e w11 ⟨rfl, hb⟩
                  have hcx : Below w10.heap.size w10 w11 := (by repeat (first | with_reducible exact Below.refl _ _ | with_reducible assumption | with_reducible refine Below.setCell ?_ (by first | omega | (simp <;> omega)) _ | with_reducible refine balloc ?_ _ | with_reducible refine Below.drew ?_ | with_reducible refine bstep ?_ (by with_reducible assumption)))
                  replace hs3 := hs3.below hcx
                  replace hs4 := hs4.below hcx
                  replace hs5 := hs5.below hcx
                  clear hcx
                  replace kt0 := cell_later hb (cell_al _ kt0)
                  replace kt1 := cell_later hb (cell_al _ kt1)
                  replace kt2 := cell_later hb (cell_al _ kt2)
                  replace ku0 := cell_later hb (cell_al _ ku0)
                  replace ku1 := cell_later hb (cell_al _ ku1)
                  replace ku2 := cell_later hb (cell_al _ ku2)
                  replace kj0 := cell_later hb (cell_al _ kj0)
                  replace kj1 := cell_later hb (cell_al _ kj1)
                  replace kj2 := cell_later hb (cell_al _ kj2)
                  replace ka0 := cell_later hb (cell_al _ ka0)
                  replace ka1 := cell_later hb (cell_al _ ka1)
                  replace kb0 := cell_later hb (cell_al _ kb0)
                  replace kb1 := cell_later hb (cell_al _ kb1)
                  replace kc0 := cell_later hb (cell_al _ kc0)
                  replace kc1 := cell_later hb (cell_al _ kc1)
                  replace kd0 := cell_later hb (cell_al _ kd0)
                  replace kd1 := cell_later hb (cell_al _ kd1)
                  replace km0 := cell_later hb (cell_al _ km0)
                  replace km1 := cell_later hb (cell_al _ km1)
                  replace km2 := cell_later hb (cell_al _ km2)
                  have kk0 : w11.cell? ⟨w10.heap.size, 0, none⟩ = some (.int .i64 s) := cell_later hb (by go_simp)
                  have kk1 : w11.cell? ⟨w10.heap.size, 1, none⟩ = some (.int .i64 p) := cell_later hb (by go_simp)
                  have kk2 : w11.cell? ⟨w10.heap.size, 2, none⟩ = some (.slice pp5 l.length cap5) := cell_later hb (by go_simp)
                  replace zt : w.heap.size < w11.heap.size := World.block_lt_of_cell? _ _ kt0
                  have zt_w11 := zt
                  replace zu : w.heap.size + 1 < w11.heap.size := World.block_lt_of_cell? _ _ ku0
                  have zu_w11 := zu
                  replace zj : w4.heap.size < w11.heap.size := World.block_lt_of_cell? _ _ kj0
                  have zj_w11 := zj
                  replace za : w5.heap.size < w11.heap.size := World.block_lt_of_cell? _ _ ka0
                  have za_w11 := za
                  replace zb : w6.heap.size < w11.heap.size := World.block_lt_of_cell? _ _ kb0
                  have zb_w11 := zb
                  replace zc : w7.heap.size < w11.heap.size := World.block_lt_of_cell? _ _ kc0
                  have zc_w11 := zc
                  replace zd : w8.heap.size < w11.heap.size := World.block_lt_of_cell? _ _ kd0
                  have zd_w11 := zd
                  replace zm : w9.heap.size < w11.heap.size := World.block_lt_of_cell? _ _ km0
                  have zm_w11 := zm
                  have zk : w10.heap.size < w11.heap.size := World.block_lt_of_cell? _ _ kk0
                  have zk_w11 := zk
                  replace hb0 : Below w.heap.size w w11 := (by repeat (first | with_reducible exact Below.refl _ _ | with_reducible assumption | with_reducible refine Below.setCell ?_ (by first | omega | (simp <;> omega)) _ | with_reducible refine balloc ?_ _ | with_reducible refine Below.drew ?_ | with_reducible refine bstep ?_ (by with_reducible assumption)))
                  have hs_w11 := hb.size; (try simp only [World.size_alloc, World.size_setCell] at hs_w11)
                  clear hb
                  go_wp2_with fail
                  refine Calls.mono (WA _) ?_
                  rintro e w12 ⟨rfl, hb⟩
                  have hcx : Below w11.heap.size w11 w12 := (by repeat (first | with_reducible exact Below.refl _ _ | with_reducible assumption | with_reducible refine Below.setCell ?_ (by first | omega | (simp <;> omega)) _ | with_reducible refine balloc ?_ _ | with_reducible refine Below.drew ?_ | with_reducible refine bstep ?_ (by with_reducible assumption)))
                  replace hs3 := hs3.below hcx
                  replace hs4 := hs4.below hcx
                  replace hs5 := hs5.below hcx
                  clear hcx
                  replace kt0 := cell_later hb (cell_al _ kt0)
                  replace kt1 := cell_later hb (cell_al _ kt1)
                  replace kt2 := cell_later hb (cell_al _ kt2)
                  replace ku0 := cell_later hb (cell_al _ ku0)
                  replace ku1 := cell_later hb (cell_al _ ku1)
                  replace ku2 := cell_later hb (cell_al _ ku2)
                  replace kj0 := cell_later hb (cell_al _ kj0)
                  replace kj1 := cell_later hb (cell_al _ kj1)
                  replace kj2 := cell_later hb (cell_al _ kj2)
                  replace ka0 := cell_later hb (cell_al _ ka0)
                  replace ka1 := cell_later hb (cell_al _ ka1)
                  replace kb0 := cell_later hb (cell_al _ kb0)
                  replace kb1 := cell_later hb (cell_al _ kb1)
                  replace kc0 := cell_later hb (cell_al _ kc0)
                  replace kc1 := cell_later hb (cell_al _ kc1)
                  replace kd0 := cell_later hb (cell_al _ kd0)
                  replace kd1 := cell_later hb (cell_al _ kd1)
                  replace km0 := cell_later hb (cell_al _ km0)
                  replace km1 := cell_later hb (cell_al _ km1)
                  replace km2 := cell_later hb (cell_al _ km2)
                  replace kk0 := cell_later hb (cell_al _ kk0)
                  replace kk1 := cell_later hb (cell_al _ kk1)
                  replace kk2 := cell_later hb (cell_al _ kk2)
                  have ks0 : w12.cell? ⟨w11.heap.size, 0, none⟩ = some (.int .i64 d1) := cell_later hb (by go_simp)
                  have ks1 : w12.cell? ⟨w11.heap.size, 1, none⟩ = some (.int .i64 d2) := cell_later hb (by go_simp)
                  replace zt : w.heap.size < w12.heap.size := World.block_lt_of_cell? _ _ kt0
                  have zt_w12 := zt
                  replace zu : w.heap.size + 1 < w12.heap.size := World.block_lt_of_cell? _ _ ku0
                  have zu_w12 := zu
                  replace zj : w4.heap.size < w12.heap.size := World.block_lt_of_cell? _ _ kj0
                  have zj_w12 := zj
                  replace za : w5.heap.size < w12.heap.size := World.block_lt_of_cell? _ _ ka0
                  have za_w12 := za
                  replace zb : w6.heap.size < w12.heap.size := World.block_lt_of_cell? _ _ kb0
                  have zb_w12 := zb
                  replace zc : w7.heap.size < w12.heap.size := World.block_lt_of_cell? _ _ kc0
                  have zc_w12 := zc
                  replace zd : w8.heap.size < w12.heap.size := World.block_lt_of_cell? _ _ kd0
                  have zd_w12 := zd
                  replace zm : w9.heap.size < w12.heap.size := World.block_lt_of_cell? _ _ km0
                  have zm_w12 := zm
                  replace zk : w10.heap.size < w12.heap.size := World.block_lt_of_cell? _ _ kk0
                  have zk_w12 := zk
                  have zs : w11.heap.size < w12.heap.size := World.block_lt_of_cell? _ _ ks0
                  have zs_w12 := zs
                  replace hb0 : Below w.heap.size w w12 := (by repeat (first | with_reducible exact Below.refl _ _ | with_reducible assumption | with_reducible refine Below.setCell ?_ (by first | omega | (simp <;> omega)) _ | with_reducible refine balloc ?_ _ | with_reducible refine Below.drew ?_ | with_reducible refine bstep ?_ (by with_reducible assumption)))
                  have hs_w12 := hb.size; (try simp only [World.size_alloc, World.size_setCell] at hs_w12)
                  clear hb
                  go_wp2_with fail
                  refine Calls.mono (WB _) ?_
                  rintro e w13 ⟨rfl, hb⟩
                  have hcx : Below w12.heap.size w12 w13 := (by repeat (first | with_reducible exact Below.refl _ _ | with_reducible assumption | with_reducible refine Below.setCell ?_ (by first | omega | (simp <;> omega)) _ | with_reducible refine balloc ?_ _ | with_reducible refine Below.drew ?_ | with_reducible refine bstep ?_ (by with_reducible assumption)))
                  replace hs3 := hs3.below hcx
                  replace hs4 := hs4.below hcx
                  replace hs5 := hs5.below hcx
                  clear hcx
                  replace kt0 := cell_later hb kt0
                  replace kt1 := cell_later hb kt1
                  replace kt2 := cell_later hb kt2
                  replace ku0 := cell_later hb ku0
                  replace ku1 := cell_later hb ku1
                  replace ku2 := cell_later hb ku2
                  replace kj0 := cell_later hb kj0
                  replace kj1 := cell_later hb kj1
                  replace kj2 := cell_later hb kj2
                  replace ka0 := cell_later hb ka0
                  replace ka1 := cell_later hb ka1
                  replace kb0 := cell_later hb kb0
                  replace kb1 := cell_later hb kb1
                  replace kc0 := cell_later hb kc0
                  replace kc1 := cell_later hb kc1
                  replace kd0 := cell_later hb kd0
                  replace kd1 := cell_later hb kd1
                  replace km0 := cell_later hb km0
                  replace km1 := cell_later hb km1
                  replace km2 := cell_later hb km2
                  replace kk0 := cell_later hb kk0
                  replace kk1 := cell_later hb kk1
                  replace kk2 := cell_later hb kk2
                  replace ks0 := cell_later hb ks0
                  replace ks1 := cell_later hb ks1
                  replace zt : w.heap.size < w13.heap.size := World.block_lt_of_cell? _ _ kt0
                  have zt_w13 := zt
                  replace zu : w.heap.size + 1 < w13.heap.size := World.block_lt_of_cell? _ _ ku0
                  have zu_w13 := zu
                  replace zj : w4.heap.size < w13.heap.size := World.block_lt_of_cell? _ _ kj0
                  have zj_w13 := zj
                  replace za : w5.heap.size < w13.heap.size := World.block_lt_of_cell? _ _ ka0
                  have za_w13 := za
                  replace zb : w6.heap.size < w13.heap.size := World.block_lt_of_cell? _ _ kb0
                  have zb_w13 := zb
                  replace zc : w7.heap.size < w13.heap.size := World.block_lt_of_cell? _ _ kc0
                  have zc_w13 := zc
                  replace zd : w8.heap.size < w13.heap.size := World.block_lt_of_cell? _ _ kd0
                  have zd_w13 := zd
                  replace zm : w9.heap.size < w13.heap.size := World.block_lt_of_cell? _ _ km0
                  have zm_w13 := zm
                  replace zk : w10.heap.size < w13.heap.size := World.block_lt_of_cell? _ _ kk0
                  have zk_w13 := zk
                  replace zs : w11.heap.size < w13.heap.size := World.block_lt_of_cell? _ _ ks0
                  have zs_w13 := zs
                  replace hb0 : Below w.heap.size w w13 := (by repeat (first | with_reducible exact Below.refl _ _ | with_reducible assumption | with_reducible refine Below.setCell ?_ (by first | omega | (simp <;> omega)) _ | with_reducible refine balloc ?_ _ | with_reducible refine Below.drew ?_ | with_reducible refine bstep ?_ (by with_reducible assumption)))
                  have hs_w13 : w12.heap.size ≤ w13.heap.size := hb.size
                  clear hb
                  go_wp2_with fail
                  refine Calls.mono (same_t s p _ _ lm _ (hs4.below (by repeat (first | with_reducible exact Below.refl _ _ | with_reducible assumption | with_reducible refine Below.setCell ?_ (by first | omega | (simp <;> omega)) _ | with_reducible refine balloc ?_ _ | with_reducible refine Below.drew ?_ | with_reducible refine bstep ?_ (by with_reducible assumption)))) (hs5.below (by repeat (first | with_reducible exact Below.refl _ _ | with_reducible assumption | with_reducible refine Below.setCell ?_ (by first | omega | (simp <;> omega)) _ | with_reducible refine balloc ?_ _ | with_reducible refine Below.drew ?_ | with_reducible refine bstep ?_ (by with_reducible assumption))))) ?_
                  rintro e w14 ⟨rfl, hb⟩
                  have hcx : Below w13.heap.size w13 w14 := (by repeat (first | with_reducible exact Below.refl _ _ | with_reducible assumption | with_reducible refine Below.setCell ?_ (by first | omega | (simp <;> omega)) _ | with_reducible refine balloc ?_ _ | with_reducible refine Below.drew ?_ | with_reducible refine bstep ?_ (by with_reducible assumption)))
                  replace hs3 := hs3.below hcx
                  replace hs4 := hs4.below hcx
                  replace hs5 := hs5.below hcx
                  clear hcx
                  replace kt0 := cell_later hb kt0
                  replace kt1 := cell_later hb kt1
                  replace kt2 := cell_later hb kt2
                  replace ku0 := cell_later hb ku0
                  replace ku1 := cell_later hb ku1
                  replace ku2 := cell_later hb ku2
                  replace kj0 := cell_later hb kj0
                  replace kj1 := cell_later hb kj1
                  replace kj2 := cell_later hb kj2
                  replace ka0 := cell_later hb ka0
                  replace ka1 := cell_later hb ka1
                  replace kb0 := cell_later hb kb0
                  replace kb1 := cell_later hb kb1
                  replace kc0 := cell_later hb kc0
                  replace kc1 := cell_later hb kc1
                  replace kd0 := cell_later hb kd0
                  replace kd1 := cell_later hb kd1
                  replace km0 := cell_later hb km0
                  replace km1 := cell_later hb km1
                  replace km2 := cell_later hb km2
                  replace kk0 := cell_later hb kk0
                  replace kk1 := cell_later hb kk1
                  replace kk2 := cell_later hb kk2
                  replace ks0 := cell_later hb ks0
                  replace ks1 := cell_later hb ks1
                  replace zt : w.heap.size < w14.heap.size := World.block_lt_of_cell? _ _ kt0
                  have zt_w14 := zt
                  replace zu : w.heap.size + 1 < w14.heap.size := World.block_lt_of_cell? _ _ ku0
                  have zu_w14 := zu
                  replace zj : w4.heap.size < w14.heap.size := World.block_lt_of_cell? _ _ kj0
                  have zj_w14 := zj
                  replace za : w5.heap.size < w14.heap.size := World.block_lt_of_cell? _ _ ka0
                  have za_w14 := za
                  replace zb : w6.heap.size < w14.heap.size := World.block_lt_of_cell? _ _ kb0
                  have zb_w14 := zb
                  replace zc : w7.heap.size < w14.heap.size := World.block_lt_of_cell? _ _ kc0
                  have zc_w14 := zc
                  replace zd : w8.heap.size < w14.heap.size := World.block_lt_of_cell? _ _ kd0
                  have zd_w14 := zd
                  replace zm : w9.heap.size < w14.heap.size := World.block_lt_of_cell? _ _ km0
                  have zm_w14 := zm
                  replace zk : w10.heap.size < w14.heap.size := World.block_lt_of_cell? _ _ kk0
                  have zk_w14 := zk
                  replace zs : w11.heap.size < w14.heap.size := World.block_lt_of_cell? _ _ ks0
                  have zs_w14 := zs
                  replace hb0 : Below w.heap.size w w14 := (by repeat (first | with_reducible exact Below.refl _ _ | with_reducible assumption | with_reducible refine Below.setCell ?_ (by first | omega | (simp <;> omega)) _ | with_reducible refine balloc ?_ _ | with_reducible refine Below.drew ?_ | with_reducible refine bstep ?_ (by with_reducible assumption)))
                  have hs_w14 : w13.heap.size ≤ w14.heap.size := hb.size
                  clear hb
                  go_wp2
                  go_ret
                  exact ⟨rfl, (by repeat (first | with_reducible exact Below.refl _ _ | with_reducible assumption | with_reducible refine Below.setCell ?_ (by first | omega | (simp <;> omega)) _ | with_reducible refine balloc ?_ _ | with_reducible refine Below.drew ?_ | with_reducible refine bstep ?_ (by with_reducible assumption)))⟩
              · by_cases q2 : b1 < need
                · have q3 : c1 < need := by omega
                  have q4 : need ≤ d1 := by omega
                  clear hdn hcc hcn hc1
                  go_enter Try.func8, Try.ntmps8
                  go_wp2_with fail
                  refine Calls.mono (head_c _) ?_
                  rintro e w1 ⟨rfl, hb⟩
                  have kt0 : w1.cell? ⟨w.heap.size, 0, none⟩ = some (.int .i64 s) := cell_later hb (by go_simp)
                  have kt1 : w1.cell? ⟨w.heap.size, 1, none⟩ = some (.int .i64 p) := cell_later hb (by go_simp)
                  have kt2 : w1.cell? ⟨w.heap.size, 2, none⟩ = some (.slice pp l.length cap) := cell_later hb (by go_simp)
                  have ku0 : w1.cell? ⟨w.heap.size + 1, 0, none⟩ = some (.int .i64 s) := cell_later hb (by go_simp)
                  have ku1 : w1.cell? ⟨w.heap.size + 1, 1, none⟩ = some (.int .i64 p) := cell_later hb (by go_simp)
                  have ku2 : w1.cell? ⟨w.heap.size + 1, 2, none⟩ = some (.slice pp2 l2.length cap2) := cell_later hb (by go_simp)
                  have zt : w.heap.size < w1.heap.size := World.block_lt_of_cell? _ _ kt0
                  have zt_w1 := zt
                  have zu : w.heap.size + 1 < w1.heap.size := World.block_lt_of_cell? _ _ ku0
                  have zu_w1 := zu
                  have hb0 : Below w.heap.size w w1 := (by repeat (first | with_reducible exact Below.refl _ _ | with_reducible assumption | with_reducible refine Below.setCell ?_ (by first | omega | (simp <;> omega)) _ | with_reducible refine balloc ?_ _ | with_reducible refine Below.drew ?_ | with_reducible refine bstep ?_ (by with_reducible assumption)))
                  have hs_w1 := hb.size; (try simp only [World.size_alloc, World.size_setCell] at hs_w1)
                  clear hb
                  go_wp2_with fail
                  refine Calls.mono (F1 _ (by repeat (first | with_reducible exact Below.refl _ _ | with_reducible assumption | with_reducible refine Below.setCell ?_ (by first | omega | (simp <;> omega)) _ | with_reducible refine balloc ?_ _ | with_reducible refine Below.drew ?_ | with_reducible refine bstep ?_ (by with_reducible assumption)))) ?_
                  rintro e w2 ⟨rfl, hb⟩
                  replace kt0 := cell_later hb kt0
                  replace kt1 := cell_later hb kt1
                  replace kt2 := cell_later hb kt2
                  replace ku0 := cell_later hb ku0
                  replace ku1 := cell_later hb ku1
                  replace ku2 := cell_later hb ku2
                  replace zt : w.heap.size < w2.heap.size := World.block_lt_of_cell? _ _ kt0
                  have zt_w2 := zt
                  replace zu : w.heap.size + 1 < w2.heap.size := World.block_lt_of_cell? _ _ ku0
                  have zu_w2 := zu
                  replace hb0 : Below w.heap.size w w2 := (by repeat (first | with_reducible exact Below.refl _ _ | with_reducible assumption | with_reducible refine Below.setCell ?_ (by first | omega | (simp <;> omega)) _ | with_reducible refine balloc ?_ _ | with_reducible refine Below.drew ?_ | with_reducible refine bstep ?_ (by with_reducible assumption)))
                  have hs_w2 : w1.heap.size ≤ w2.heap.size := hb.size
                  clear hb
                  go_wp2_with fail
                  refine Calls.mono (F2 _ (by repeat (first | with_reducible exact Below.refl _ _ | with_reducible assumption | with_reducible refine Below.setCell ?_ (by first | omega | (simp <;> omega)) _ | with_reducible refine balloc ?_ _ | with_reducible refine Below.drew ?_ | with_reducible refine bstep ?_ (by with_reducible assumption)))) ?_
                  rintro e w3 ⟨rfl, hb⟩
                  replace kt0 := cell_later hb kt0
                  replace kt1 := cell_later hb kt1
                  replace kt2 := cell_later hb kt2
                  replace ku0 := cell_later hb ku0
                  replace ku1 := cell_later hb ku1
                  replace ku2 := cell_later hb ku2
                  replace zt : w.heap.size < w3.heap.size := World.block_lt_of_cell? _ _ kt0
                  have zt_w3 := zt
                  replace zu : w.heap.size + 1 < w3.heap.size := World.block_lt_of_cell? _ _ ku0
                  have zu_w3 := zu
                  replace hb0 : Below w.heap.size w w3 := (by repeat (first | with_reducible exact Below.refl _ _ | with_reducible assumption | with_reducible refine Below.setCell ?_ (by first | omega | (simp <;> omega)) _ | with_reducible refine balloc ?_ _ | with_reducible refine Below.drew ?_ | with_reducible refine bstep ?_ (by with_reducible assumption)))
                  have hs_w3 : w2.heap.size ≤ w3.heap.size := hb.size
                  clear hb
                  go_wp2_with fail
                  refine Calls.mono (JO2 _ (by repeat (first | with_reducible exact Below.refl _ _ | with_reducible assumption | with_reducible refine Below.setCell ?_ (by first | omega | (simp <;> omega)) _ | with_reducible refine balloc ?_ _ | with_reducible refine Below.drew ?_ | with_reducible refine bstep ?_ (by with_reducible assumption)))) ?_
                  rintro e w4 ⟨v3, rfl, hs3, hfr3, hb⟩
                  replace kt0 := cell_later hb kt0
                  replace kt1 := cell_later hb kt1
                  replace kt2 := cell_later hb kt2
                  replace ku0 := cell_later hb ku0
                  replace ku1 := cell_later hb ku1
                  replace ku2 := cell_later hb ku2
                  replace zt : w.heap.size < w4.heap.size := World.block_lt_of_cell? _ _ kt0
                  have zt_w4 := zt
                  replace zu : w.heap.size + 1 < w4.heap.size := World.block_lt_of_cell? _ _ ku0
                  have zu_w4 := zu
                  replace hb0 : Below w.heap.size w w4 := (by repeat (first | with_reducible exact Below.refl _ _ | with_reducible assumption | with_reducible refine Below.setCell ?_ (by first | omega | (simp <;> omega)) _ | with_reducible refine balloc ?_ _ | with_reducible refine Below.drew ?_ | with_reducible refine bstep ?_ (by with_reducible assumption)))
                  have hs_w4 : w3.heap.size ≤ w4.heap.size := hb.size
                  clear hb
                  obtain ⟨⟨pp3, cap3, rfl, _, _, _⟩, _⟩ := id hs3
                  rw [HJL.out] at hs3 ⊢
                  go_wp2_with fail
                  refine Calls.mono (HA _ (by repeat (first | with_reducible exact Below.refl _ _ | with_reducible assumption | with_reducible refine Below.setCell ?_ (by first | omega | (simp <;> omega)) _ | with_reducible refine balloc ?_ _ | with_reducible refine Below.drew ?_ | with_reducible refine bstep ?_ (by with_reducible assumption)))) ?_
                  rintro e w5 ⟨rfl, hb⟩
                  have hcx : Below w4.heap.size w4 w5 := (by repeat (first | with_reducible exact Below.refl _ _ | with_reducible assumption | with_reducible refine Below.setCell ?_ (by first | omega | (simp <;> omega)) _ | with_reducible refine balloc ?_ _ | with_reducible refine Below.drew ?_ | with_reducible refine bstep ?_ (by with_reducible assumption)))
                  replace hs3 := hs3.below hcx
                  clear hcx
                  replace kt0 := cell_later hb (cell_al _ kt0)
                  replace kt1 := cell_later hb (cell_al _ kt1)
                  replace kt2 := cell_later hb (cell_al _ kt2)
                  replace ku0 := cell_later hb (cell_al _ ku0)
                  replace ku1 := cell_later hb (cell_al _ ku1)
                  replace ku2 := cell_later hb (cell_al _ ku2)
                  have kj0 : w5.cell? ⟨w4.heap.size, 0, none⟩ = some (.int .i64 s) := cell_later hb (by go_simp)
                  have kj1 : w5.cell? ⟨w4.heap.size, 1, none⟩ = some (.int .i64 p) := cell_later hb (by go_simp)
                  have kj2 : w5.cell? ⟨w4.heap.size, 2, none⟩ = some (.slice pp3 l.length cap3) := cell_later hb (by go_simp)
                  replace zt : w.heap.size < w5.heap.size := World.block_lt_of_cell? _ _ kt0
                  have zt_w5 := zt
                  replace zu : w.heap.size + 1 < w5.heap.size := World.block_lt_of_cell? _ _ ku0
                  have zu_w5 := zu
                  have zj : w4.heap.size < w5.heap.size := World.block_lt_of_cell? _ _ kj0
                  have zj_w5 := zj
                  replace hb0 : Below w.heap.size w w5 := (by repeat (first | with_reducible exact Below.refl _ _ | with_reducible assumption | with_reducible refine Below.setCell ?_ (by first | omega | (simp <;> omega)) _ | with_reducible refine balloc ?_ _ | with_reducible refine Below.drew ?_ | with_reducible refine bstep ?_ (by with_reducible assumption)))
                  have hs_w5 := hb.size; (try simp only [World.size_alloc, World.size_setCell] at hs_w5)
                  clear hb
                  go_wp2_with fail
                  refine Calls.mono (HB _ (by repeat (first | with_reducible exact Below.refl _ _ | with_reducible assumption | with_reducible refine Below.setCell ?_ (by first | omega | (simp <;> omega)) _ | with_reducible refine balloc ?_ _ | with_reducible refine Below.drew ?_ | with_reducible refine bstep ?_ (by with_reducible assumption)))) ?_
                  rintro e w6 ⟨rfl, hb⟩
                  have hcx : Below w5.heap.size w5 w6 := (by repeat (first | with_reducible exact Below.refl _ _ | with_reducible assumption | with_reducible refine Below.setCell ?_ (by first | omega | (simp <;> omega)) _ | with_reducible refine balloc ?_ _ | with_reducible refine Below.drew ?_ | with_reducible refine bstep ?_ (by with_reducible assumption)))
                  replace hs3 := hs3.below hcx
                  clear hcx
                  replace kt0 := cell_later hb (cell_al _ kt0)
                  replace kt1 := cell_later hb (cell_al _ kt1)
                  replace kt2 := cell_later hb (cell_al _ kt2)
                  replace ku0 := cell_later hb (cell_al _ ku0)
                  replace ku1 := cell_later hb (cell_al _ ku1)
                  replace ku2 := cell_later hb (cell_al _ ku2)
                  replace kj0 := cell_later hb (cell_al _ kj0)
                  replace kj1 := cell_later hb (cell_al _ kj1)
                  replace kj2 := cell_later hb (cell_al _ kj2)
                  have ka0 : w6.cell? ⟨w5.heap.size, 0, none⟩ = some (.int .i64 a1) := cell_later hb (by go_simp)
                  have ka1 : w6.cell? ⟨w5.heap.size, 1, none⟩ = some (.int .i64 a2) := cell_later hb (by go_simp)
                  replace zt : w.heap.size < w6.heap.size := World.block_lt_of_cell? _ _ kt0
                  have zt_w6 := zt
                  replace zu : w.heap.size + 1 < w6.heap.size := World.block_lt_of_cell? _ _ ku0
                  have zu_w6 := zu
                  replace zj : w4.heap.size < w6.heap.size := World.block_lt_of_cell? _ _ kj0
                  have zj_w6 := zj
                  have za : w5.heap.size < w6.heap.size := World.block_lt_of_cell? _ _ ka0
                  have za_w6 := za
                  replace hb0 : Below w.heap.size w w6 := (by repeat (first | with_reducible exact Below.refl _ _ | with_reducible assumption | with_reducible refine Below.setCell ?_ (by first | omega | (simp <;> omega)) _ | with_reducible refine balloc ?_ _ | with_reducible refine Below.drew ?_ | with_reducible refine bstep ?_ (by with_reducible assumption)))
                  have hs_w6 := hb.size; (try simp only [World.size_alloc, World.size_setCell] at hs_w6)
                  clear hb
                  go_wp2_with fail
                  refine Calls.mono (HJ _ _ (hs3.below (by repeat (first | with_reducible exact Below.refl _ _ | with_reducible assumption | with_reducible refine Below.setCell ?_ (by first | omega | (simp <;> omega)) _ | with_reducible refine balloc ?_ _ | with_reducible refine Below.drew ?_ | with_reducible refine bstep ?_ (by with_reducible assumption))))) ?_
                  rintro e w7 ⟨rfl, hb⟩
                  have hcx : Below w6.heap.size w6 w7 := (by repeat (first | with_reducible exact Below.refl _ _ | with_reducible assumption | with_reducible refine Below.setCell ?_ (by first | omega | (simp <;> omega)) _ | with_reducible refine balloc ?_ _ | with_reducible refine Below.drew ?_ | with_reducible refine bstep ?_ (by with_reducible assumption)))
                  replace hs3 := hs3.below hcx
                  clear hcx
                  replace kt0 := cell_later hb (cell_al _ kt0)
                  replace kt1 := cell_later hb (cell_al _ kt1)
                  replace kt2 := cell_later hb (cell_al _ kt2)
                  replace ku0 := cell_later hb (cell_al _ ku0)
                  replace ku1 := cell_later hb (cell_al _ ku1)
                  replace ku2 := cell_later hb (cell_al _ ku2)
                  replace kj0 := cell_later hb (cell_al _ kj0)
                  replace kj1 := cell_later hb (cell_al _ kj1)
                  replace kj2 := cell_later hb (cell_al _ kj2)
                  replace ka0 := cell_later hb (cell_al _ ka0)
                  replace ka1 := cell_later hb (cell_al _ ka1)
                  have kb0 : w7.cell? ⟨w6.heap.size, 0, none⟩ = some (.int .i64 b1) := cell_later hb (by go_simp)
                  have kb1 : w7.cell? ⟨w6.heap.size, 1, none⟩ = some (.int .i64 b2) := cell_later hb (by go_simp)
                  replace zt : w.heap.size < w7.heap.size := World.block_lt_of_cell? _ _ kt0
                  have zt_w7 := zt
                  replace zu : w.heap.size + 1 < w7.heap.size := World.block_lt_of_cell? _ _ ku0
                  have zu_w7 := zu
                  replace zj : w4.heap.size < w7.heap.size := World.block_lt_of_cell? _ _ kj0
                  have zj_w7 := zj
                  replace za : w5.heap.size < w7.heap.size := World.block_lt_of_cell? _ _ ka0
                  have za_w7 := za
                  have zb : w6.heap.size < w7.heap.size := World.block_lt_of_cell? _ _ kb0
                  have zb_w7 := zb
                  replace hb0 : Below w.heap.size w w7 := (by repeat (first | with_reducible exact Below.refl _ _ | with_reducible assumption | with_reducible refine Below.setCell ?_ (by first | omega | (simp <;> omega)) _ | with_reducible refine balloc ?_ _ | with_reducible refine Below.drew ?_ | with_reducible refine bstep ?_ (by with_reducible assumption)))
                  have hs_w7 := hb.size; (try simp only [World.size_alloc, World.size_setCell] at hs_w7)
                  clear hb
                  go_wp2_with fail
                  refine Calls.mono (JJ _) ?_
                  rintro e w8 ⟨rfl, hb⟩
                  have hcx : Below w7.heap.size w7 w8 := (by repeat (first | with_reducible exact Below.refl _ _ | with_reducible assumption | with_reducible refine Below.setCell ?_ (by first | omega | (simp <;> omega)) _ | with_reducible refine balloc ?_ _ | with_reducible refine Below.drew ?_ | with_reducible refine bstep ?_ (by with_reducible assumption)))
                  replace hs3 := hs3.below hcx
                  clear hcx
                  replace kt0 := cell_later hb (cell_al _ kt0)
                  replace kt1 := cell_later hb (cell_al _ kt1)
                  replace kt2 := cell_later hb (cell_al _ kt2)
                  replace ku0 := cell_later hb (cell_al _ ku0)
                  replace ku1 := cell_later hb (cell_al _ ku1)
                  replace ku2 := cell_later hb (cell_al _ ku2)
                  replace kj0 := cell_later hb (cell_al _ kj0)
                  replace kj1 := cell_later hb (cell_al _ kj1)
                  replace kj2 := cell_later hb (cell_al _ kj2)
                  replace ka0 := cell_later hb (cell_al _ ka0)
                  replace ka1 := cell_later hb (cell_al _ ka1)
                  replace kb0 := cell_later hb (cell_al _ kb0)
                  replace kb1 := cell_later hb (cell_al _ kb1)
                  have kc0 : w8.cell? ⟨w7.heap.size, 0, none⟩ = some (.int .i64 c1) := cell_later hb (by go_simp)
                  have kc1 : w8.cell? ⟨w7.heap.size, 1, none⟩ = some (.int .i64 c2) := cell_later hb (by go_simp)
                  replace zt : w.heap.size < w8.heap.size := World.block_lt_of_cell? _ _ kt0
                  have zt_w8 := zt
                  replace zu : w.heap.size + 1 < w8.heap.size := World.block_lt_of_cell? _ _ ku0
                  have zu_w8 := zu
                  replace zj : w4.heap.size < w8.heap.size := World.block_lt_of_cell? _ _ kj0
                  have zj_w8 := zj
                  replace za : w5.heap.size < w8.heap.size := World.block_lt_of_cell? _ _ ka0
                  have za_w8 := za
                  replace zb : w6.heap.size < w8.heap.size := World.block_lt_of_cell? _ _ kb0
                  have zb_w8 := zb
                  have zc : w7.heap.size < w8.heap.size := World.block_lt_of_cell? _ _ kc0
                  have zc_w8 := zc
                  replace hb0 : Below w.heap.size w w8 := (by repeat (first | with_reducible exact Below.refl _ _ | with_reducible assumption | with_reducible refine Below.setCell ?_ (by first | omega | (simp <;> omega)) _ | with_reducible refine balloc ?_ _ | with_reducible refine Below.drew ?_ | with_reducible refine bstep ?_ (by with_reducible assumption)))
                  have hs_w8 := hb.size; (try simp only [World.size_alloc, World.size_setCell] at hs_w8)
                  clear hb
                  go_wp2_with fail
                  refine Calls.mono (ME2 _ (by repeat (first | with_reducible exact Below.refl _ _ | with_reducible assumption | with_reducible refine Below.setCell ?_ (by first | omega | (simp <;> omega)) _ | with_reducible refine balloc ?_ _ | with_reducible refine Below.drew ?_ | with_reducible refine bstep ?_ (by with_reducible assumption)))) ?_
                  rintro e w9 ⟨v4, rfl, hs4, hfr4, hb⟩
                  have hcx : Below w8.heap.size w8 w9 := (by repeat (first | with_reducible exact Below.refl _ _ | with_reducible assumption | with_reducible refine Below.setCell ?_ (by first | omega | (simp <;> omega)) _ | with_reducible refine balloc ?_ _ | with_reducible refine Below.drew ?_ | with_reducible refine bstep ?_ (by with_reducible assumption)))
                  replace hs3 := hs3.below hcx
                  clear hcx
                  replace kt0 := cell_later hb (cell_al _ kt0)
                  replace kt1 := cell_later hb (cell_al _ kt1)
                  replace kt2 := cell_later hb (cell_al _ kt2)
                  replace ku0 := cell_later hb (cell_al _ ku0)
                  replace ku1 := cell_later hb (cell_al _ ku1)
                  replace ku2 := cell_later hb (cell_al _ ku2)
                  replace kj0 := cell_later hb (cell_al _ kj0)
                  replace kj1 := cell_later hb (cell_al _ kj1)
                  replace kj2 := cell_later hb (cell_al _ kj2)
                  replace ka0 := cell_later hb (cell_al _ ka0)
                  replace ka1 := cell_later hb (cell_al _ ka1)
                  replace kb0 := cell_later hb (cell_al _ kb0)
                  replace kb1 := cell_later hb (cell_al _ kb1)
                  replace kc0 := cell_later hb (cell_al _ kc0)
                  replace kc1 := cell_later hb (cell_al _ kc1)
                  have kd0 : w9.cell? ⟨w8.heap.size, 0, none⟩ = some (.int .i64 c1) := cell_later hb (by go_simp)
                  have kd1 : w9.cell? ⟨w8.heap.size, 1, none⟩ = some (.int .i64 c2) := cell_later hb (by go_simp)
                  replace zt : w.heap.size < w9.heap.size := World.block_lt_of_cell? _ _ kt0
                  have zt_w9 := zt
                  replace zu : w.heap.size + 1 < w9.heap.size := World.block_lt_of_cell? _ _ ku0
                  have zu_w9 := zu
                  replace zj : w4.heap.size < w9.heap.size := World.block_lt_of_cell? _ _ kj0
                  have zj_w9 := zj
                  replace za : w5.heap.size < w9.heap.size := World.block_lt_of_cell? _ _ ka0
                  have za_w9 := za
                  replace zb : w6.heap.size < w9.heap.size := World.block_lt_of_cell? _ _ kb0
                  have zb_w9 := zb
                  replace zc : w7.heap.size < w9.heap.size := World.block_lt_of_cell? _ _ kc0
                  have zc_w9 := zc
                  have zd : w8.heap.size < w9.heap.size := World.block_lt_of_cell? _ _ kd0
                  have zd_w9 := zd
                  replace hb0 : Below w.heap.size w w9 := (by repeat (first | with_reducible exact Below.refl _ _ | with_reducible assumption | with_reducible refine Below.setCell ?_ (by first | omega | (simp <;> omega)) _ | with_reducible refine balloc ?_ _ | with_reducible refine Below.drew ?_ | with_reducible refine bstep ?_ (by with_reducible assumption)))
                  have hs_w9 := hb.size; (try simp only [World.size_alloc, World.size_setCell] at hs_w9)
                  clear hb
                  obtain ⟨⟨pp4, cap4, rfl, _, _, _⟩, _⟩ := id hs4
                  rw [HML.out] at hs4 ⊢
                  go_wp2_with fail
                  refine Calls.mono (MB2 _ (by repeat (first | with_reducible exact Below.refl _ _ | with_reducible assumption | with_reducible refine Below.setCell ?_ (by first | omega | (simp <;> omega)) _ | with_reducible refine balloc ?_ _ | with_reducible refine Below.drew ?_ | with_reducible refine bstep ?_ (by with_reducible assumption)))) ?_
                  rintro e w10 ⟨v5, rfl, hs5, hfr5, hb⟩
                  have hcx : Below w9.heap.size w9 w10 := (by repeat (first | with_reducible exact Below.refl _ _ | with_reducible assumption | with_reducible refine Below.setCell ?_ (by first | omega | (simp <;> omega)) _ | with_reducible refine balloc ?_ _ | with_reducible refine Below.drew ?_ | with_reducible refine bstep ?_ (by with_reducible assumption)))
                  replace hs3 := hs3.below hcx
                  replace hs4 := hs4.below hcx
                  clear hcx
                  replace kt0 := cell_later hb (cell_al _ kt0)
                  replace kt1 := cell_later hb (cell_al _ kt1)
                  replace kt2 := cell_later hb (cell_al _ kt2)
                  replace ku0 := cell_later hb (cell_al _ ku0)
                  replace ku1 := cell_later hb (cell_al _ ku1)
                  replace ku2 := cell_later hb (cell_al _ ku2)
                  replace kj0 := cell_later hb (cell_al _ kj0)
                  replace kj1 := cell_later hb (cell_al _ kj1)
                  replace kj2 := cell_later hb (cell_al _ kj2)
                  replace ka0 := cell_later hb (cell_al _ ka0)
                  replace ka1 := cell_later hb (cell_al _ ka1)
                  replace kb0 := cell_later hb (cell_al _ kb0)
                  replace kb1 := cell_later hb (cell_al _ kb1)
                  replace kc0 := cell_later hb (cell_al _ kc0)
                  replace kc1 := cell_later hb (cell_al _ kc1)
                  replace kd0 := cell_later hb (cell_al _ kd0)
                  replace kd1 := cell_later hb (cell_al _ kd1)
                  have km0 : w10.cell? ⟨w9.heap.size, 0, none⟩ = some (.int .i64 s) := cell_later hb (by go_simp)
                  have km1 : w10.cell? ⟨w9.heap.size, 1, none⟩ = some (.int .i64 p) := cell_later hb (by go_simp)
                  have km2 : w10.cell? ⟨w9.heap.size, 2, none⟩ = some (.slice pp4 l.length cap4) := cell_later hb (by go_simp)
                  replace zt : w.heap.size < w10.heap.size := World.block_lt_of_cell? _ _ kt0
                  have zt_w10 := zt
                  replace zu : w.heap.size + 1 < w10.heap.size := World.block_lt_of_cell? _ _ ku0
                  have zu_w10 := zu
                  replace zj : w4.heap.size < w10.heap.size := World.block_lt_of_cell? _ _ kj0
                  have zj_w10 := zj
                  replace za : w5.heap.size < w10.heap.size := World.block_lt_of_cell? _ _ ka0
                  have za_w10 := za
                  replace zb : w6.heap.size < w10.heap.size := World.block_lt_of_cell? _ _ kb0
                  have zb_w10 := zb
                  replace zc : w7.heap.size < w10.heap.size := World.block_lt_of_cell? _ _ kc0
                  have zc_w10 := zc
                  replace zd : w8.heap.size < w10.heap.size := World.block_lt_of_cell? _ _ kd0
                  have zd_w10 := zd
                  have zm : w9.heap.size < w10.heap.size := World.block_lt_of_cell? _ _ km0
                  have zm_w10 := zm
                  replace hb0 : Below w.heap.size w w10 := (by repeat (first | with_reducible exact Below.refl _ _ | with_reducible assumption | with_reducible refine Below.setCell ?_ (by first | omega | (simp <;> omega)) _ | with_reducible refine balloc ?_ _ | with_reducible refine Below.drew ?_ | with_reducible refine bstep ?_ (by with_reducible assumption)))
                  have hs_w10 := hb.size; (try simp only [World.size_alloc, World.size_setCell] at hs_w10)
                  clear hb
                  obtain ⟨⟨pp5, cap5, rfl, _, _, _⟩, _⟩ := id hs5
                  rw [HML.out] at hs5 ⊢
                  go_wp2_with fail
                  refine Calls.mono (HM _ _ (hs4.below (by repeat (first | with_reducible exact Below.refl _ _ | with_reducible assumption | with_reducible refine Below.setCell ?_ (by first | omega | (simp <;> omega)) _ | with_reducible refine balloc ?_ _ | with_reducible refine Below.drew ?_ | with_reducible refine bstep ?_ (by with_reducible assumption))))) ?_
                  rintro e w11 ⟨rfl, hb⟩
                  have hcx : Below w10.heap.size w10 w11 := (by repeat (first | with_reducible exact Below.refl _ _ | with_reducible assumption | with_reducible refine Below.setCell ?_ (by first | omega | (simp <;> omega)) _ | with_reducible refine balloc ?_ _ | with_reducible refine Below.drew ?_ | with_reducible refine bstep ?_ (by with_reducible assumption)))
                  replace hs3 := hs3.below hcx
                  replace hs4 := hs4.below hcx
                  replace hs5 := hs5.below hcx
                  clear hcx
                  replace kt0 := cell_later hb (cell_al _ kt0)
                  replace kt1 := cell_later hb (cell_al _ kt1)
                  replace kt2 := cell_later hb (cell_al _ kt2)
                  replace ku0 := cell_later hb (cell_al _ ku0)
                  replace ku1 := cell_later hb (cell_al _ ku1)
                  replace ku2 := cell_later hb (cell_al _ ku2)
                  replace kj0 := cell_later hb (cell_al _ kj0)
                  replace kj1 := cell_later hb (cell_al _ kj1)
                  replace kj2 := cell_later hb (cell_al _ kj2)
                  replace ka0 := cell_later hb (cell_al _ ka0)
                  replace ka1 := cell_later hb (cell_al _ ka1)
                  replace kb0 := cell_later hb (cell_al _ kb0)
                  replace kb1 := cell_later hb (cell_al _ kb1)
                  replace kc0 := cell_later hb (cell_al _ kc0)
                  replace kc1 := cell_later hb (cell_al _ kc1)
                  replace kd0 := cell_later hb (cell_al _ kd0)
                  replace kd1 := cell_later hb (cell_al _ kd1)
                  replace km0 := cell_later hb (cell_al _ km0)
                  replace km1 := cell_later hb (cell_al _ km1)
                  replace km2 := cell_later hb (cell_al _ km2)
                  have kk0 : w11.cell? ⟨w10.heap.size, 0, none⟩ = some (.int .i64 s) := cell_later hb (by go_simp)
                  have kk1 : w11.cell? ⟨w10.heap.size, 1, none⟩ = some (.int .i64 p) := cell_later hb (by go_simp)
                  have kk2 : w11.cell? ⟨w10.heap.size, 2, none⟩ = some (.slice pp5 l.length cap5) := cell_later hb (by go_simp)
                  replace zt : w.heap.size < w11.heap.size := World.block_lt_of_cell? _ _ kt0
                  have zt_w11 := zt
                  replace zu : w.heap.size + 1 < w11.heap.size := World.block_lt_of_cell? _ _ ku0
                  have zu_w11 := zu
                  replace zj : w4.heap.size < w11.heap.size := World.block_lt_of_cell? _ _ kj0
                  have zj_w11 := zj
                  replace za : w5.heap.size < w11.heap.size := World.block_lt_of_cell? _ _ ka0
                  have za_w11 := za
                  replace zb : w6.heap.size < w11.heap.size := World.block_lt_of_cell? _ _ kb0
                  have zb_w11 := zb
                  replace zc : w7.heap.size < w11.heap.size := World.block_lt_of_cell? _ _ kc0
                  have zc_w11 := zc
                  replace zd : w8.heap.size < w11.heap.size := World.block_lt_of_cell? _ _ kd0
                  have zd_w11 := zd
                  replace zm : w9.heap.size < w11.heap.size := World.block_lt_of_cell? _ _ km0
                  have zm_w11 := zm
                  have zk : w10.heap.size < w11.heap.size := World.block_lt_of_cell? _ _ kk0
                  have zk_w11 := zk
                  replace hb0 : Below w.heap.size w w11 := (by repeat (first | with_reducible exact Below.refl _ _ | with_reducible assumption | with_reducible refine Below.setCell ?_ (by first | omega | (simp <;> omega)) _ | with_reducible refine balloc ?_ _ | with_reducible refine Below.drew ?_ | with_reducible refine bstep ?_ (by with_reducible assumption)))
                  have hs_w11 := hb.size; (try simp only [World.size_alloc, World.size_setCell] at hs_w11)
                  clear hb
                  go_wp2_with fail
                  refine Calls.mono (WA _) ?_
                  rintro e w12 ⟨rfl, hb⟩
                  have hcx : Below w11.heap.size w11 w12 := (by repeat (first | with_reducible exact Below.refl _ _ | with_reducible assumption | with_reducible refine Below.setCell ?_ (by first | omega | (simp <;> omega)) _ | with_reducible refine balloc ?_ _ | with_reducible refine Below.drew ?_ | with_reducible refine bstep ?_ (by with_reducible assumption)))
                  replace hs3 := hs3.below hcx
                  replace hs4 := hs4.below hcx
                  replace hs5 := hs5.below hcx
                  clear hcx
                  replace kt0 := cell_later hb (cell_al _ kt0)
                  replace kt1 := cell_later hb (cell_al _ kt1)
                  replace kt2 := cell_later hb (cell_al _ kt2)
                  replace ku0 := cell_later hb (cell_al _ ku0)
                  replace ku1 := cell_later hb (cell_al _ ku1)
                  replace ku2 := cell_later hb (cell_al _ ku2)
                  replace kj0 := cell_later hb (cell_al _ kj0)
                  replace kj1 := cell_later hb (cell_al _ kj1)
                  replace kj2 := cell_later hb (cell_al _ kj2)
                  replace ka0 := cell_later hb (cell_al _ ka0)
                  replace ka1 := cell_later hb (cell_al _ ka1)
                  replace kb0 := cell_later hb (cell_al _ kb0)
                  replace kb1 := cell_later hb (cell_al _ kb1)
                  replace kc0 := cell_later hb (cell_al _ kc0)
                  replace kc1 := cell_later hb (cell_al _ kc1)
                  replace kd0 := cell_later hb (cell_al _ kd0)
                  replace kd1 := cell_later hb (cell_al _ kd1)
                  replace km0 := cell_later hb (cell_al _ km0)
                  replace km1 := cell_later hb (cell_al _ km1)
                  replace km2 := cell_later hb (cell_al _ km2)
                  replace kk0 := cell_later hb (cell_al _ kk0)
                  replace kk1 := cell_later hb (cell_al _ kk1)
                  replace kk2 := cell_later hb (cell_al _ kk2)
                  have ks0 : w12.cell? ⟨w11.heap.size, 0, none⟩ = some (.int .i64 d1) := cell_later hb (by go_simp)
                  have ks1 : w12.cell? ⟨w11.heap.size, 1, none⟩ = some (.int .i64 d2) := cell_later hb (by go_simp)
                  replace zt : w.heap.size < w12.heap.size := World.block_lt_of_cell? _ _ kt0
                  have zt_w12 := zt
                  replace zu : w.heap.size + 1 < w12.heap.size := World.block_lt_of_cell? _ _ ku0
                  have zu_w12 := zu
                  replace zj : w4.heap.size < w12.heap.size := World.block_lt_of_cell? _ _ kj0
                  have zj_w12 := zj
                  replace za : w5.heap.size < w12.heap.size := World.block_lt_of_cell? _ _ ka0
                  have za_w12 := za
                  replace zb : w6.heap.size < w12.heap.size := World.block_lt_of_cell? _ _ kb0
                  have zb_w12 := zb
                  replace zc : w7.heap.size < w12.heap.size := World.block_lt_of_cell? _ _ kc0
                  have zc_w12 := zc
                  replace zd : w8.heap.size < w12.heap.size := World.block_lt_of_cell? _ _ kd0
                  have zd_w12 := zd
                  replace zm : w9.heap.size < w12.heap.size := World.block_lt_of_cell? _ _ km0
                  have zm_w12 := zm
                  replace zk : w10.heap.size < w12.heap.size := World.block_lt_of_cell? _ _ kk0
                  have zk_w12 := zk
                  have zs : w11.heap.size < w12.heap.size := World.block_lt_of_cell? _ _ ks0
                  have zs_w12 := zs
                  replace hb0 : Below w.heap.size w w12 := (by repeat (first | with_reducible exact Below.refl _ _ | with_reducible assumption | with_reducible refine Below.setCell ?_ (by first | omega | (simp <;> omega)) _ | with_reducible refine balloc ?_ _ | with_reducible refine Below.drew ?_ | with_reducible refine bstep ?_ (by with_reducible assumption)))
                  have hs_w12 := hb.size; (try simp only [World.size_alloc, World.size_setCell] at hs_w12)
                  clear hb
                  go_wp2_with fail
                  refine Calls.mono (WB _) ?_
                  rintro e w13 ⟨rfl, hb⟩
                  have hcx : Below w12.heap.size w12 w13 := (by repeat (first | with_reducible exact Below.refl _ _ | with_reducible assumption | with_reducible refine Below.setCell ?_ (by first | omega | (simp <;> omega)) _ | with_reducible refine balloc ?_ _ | with_reducible refine Below.drew ?_ | with_reducible refine bstep ?_ (by with_reducible assumption)))
                  replace hs3 := hs3.below hcx
                  replace hs4 := hs4.below hcx
                  replace hs5 := hs5.below hcx
                  clear hcx
                  replace kt0 := cell_later hb kt0
                  replace kt1 := cell_later hb kt1
                  replace kt2 := cell_later hb kt2
                  replace ku0 := cell_later hb ku0
                  replace ku1 := cell_later hb ku1
                  replace ku2 := cell_later hb ku2
                  replace kj0 := cell_later hb kj0
                  replace kj1 := cell_later hb kj1
                  replace kj2 := cell_later hb kj2
                  replace ka0 := cell_later hb ka0
                  replace ka1 := cell_later hb ka1
                  replace kb0 := cell_later hb kb0
                  replace kb1 := cell_later hb kb1
                  replace kc0 := cell_later hb kc0
                  replace kc1 := cell_later hb kc1
                  replace kd0 := cell_later hb kd0
                  replace kd1 := cell_later hb kd1
                  replace km0 := cell_later hb km0
                  replace km1 := cell_later hb km1
                  replace km2 := cell_later hb km2
                  replace kk0 := cell_later hb kk0
                  replace kk1 := cell_later hb kk1
                  replace kk2 := cell_later hb kk2
                  replace ks0 := cell_later hb ks0
                  replace ks1 := cell_later hb ks1
                  replace zt : w.heap.size < w13.heap.size := World.block_lt_of_cell? _ _ kt0
                  have zt_w13 := zt
                  replace zu : w.heap.size + 1 < w13.heap.size := World.block_lt_of_cell? _ _ ku0
                  have zu_w13 := zu
                  replace zj : w4.heap.size < w13.heap.size := World.block_lt_of_cell? _ _ kj0
                  have zj_w13 := zj
                  replace za : w5.heap.size < w13.heap.size := World.block_lt_of_cell? _ _ ka0
                  have za_w13 := za
                  replace zb : w6.heap.size < w13.heap.size := World.block_lt_of_cell? _ _ kb0
                  have zb_w13 := zb
                  replace zc : w7.heap.size < w13.heap.size := World.block_lt_of_cell? _ _ kc0
                  have zc_w13 := zc
                  replace zd : w8.heap.size < w13.heap.size := World.block_lt_of_cell? _ _ kd0
                  have zd_w13 := zd
                  replace zm : w9.heap.size < w13.heap.size := World.block_lt_of_cell? _ _ km0
                  have zm_w13 := zm
                  replace zk : w10.heap.size < w13.heap.size := World.block_lt_of_cell? _ _ kk0
                  have zk_w13 := zk
                  replace zs : w11.heap.size < w13.heap.size := World.block_lt_of_cell? _ _ ks0
                  have zs_w13 := zs
                  replace hb0 : Below w.heap.size w w13 := (by repeat (first | with_reducible exact Below.refl _ _ | with_reducible assumption | with_reducible refine Below.setCell ?_ (by first | omega | (simp <;> omega)) _ | with_reducible refine balloc ?_ _ | with_reducible refine Below.drew ?_ | with_reducible refine bstep ?_ (by with_reducible assumption)))
                  have hs_w13 : w12.heap.size ≤ w13.heap.size := hb.size
                  clear hb
                  go_wp2_with fail
                  refine Calls.mono (same_t s p _ _ lm _ (hs4.below (by repeat (first | with_reducible exact Below.refl _ _ | with_reducible assumption | with_reducible refine Below.setCell ?_ (by first | omega | (simp <;> omega)) _ | with_reducible refine balloc ?_ _ | with_reducible refine Below.drew ?_ | with_reducible refine bstep ?_ (by with_reducible assumption)))) (hs5.below (by repeat (first | with_reducible exact Below.refl _ _ | with_reducible assumption | with_reducible refine Below.setCell ?_ (by first | omega | (simp <;> omega)) _ | with_reducible refine balloc ?_ _ | with_reducible refine Below.drew ?_ | with_reducible refine bstep ?_ (by with_reducible assumption))))) ?_
                  rintro e w14 ⟨rfl, hb⟩
                  have hcx : Below w13.heap.size w13 w14 := (by repeat (first | with_reducible exact Below.refl _ _ | with_reducible assumption | with_reducible refine Below.setCell ?_ (by first | omega | (simp <;> omega)) _ | with_reducible refine balloc ?_ _ | with_reducible refine Below.drew ?_ | with_reducible refine bstep ?_ (by with_reducible assumption)))
                  replace hs3 := hs3.below hcx
                  replace hs4 := hs4.below hcx
                  replace hs5 := hs5.below hcx
                  clear hcx
                  replace kt0 := cell_later hb kt0
                  replace kt1 := cell_later hb kt1
                  replace kt2 := cell_later hb kt2
                  replace ku0 := cell_later hb ku0
                  replace ku1 := cell_later hb ku1
                  replace ku2 := cell_later hb ku2
                  replace kj0 := cell_later hb kj0
                  replace kj1 := cell_later hb kj1
                  replace kj2 := cell_later hb kj2
                  replace ka0 := cell_later hb ka0
                  replace ka1 := cell_later hb ka1
                  replace kb0 := cell_later hb kb0
                  replace kb1 := cell_later hb kb1
                  replace kc0 := cell_later hb kc0
                  replace kc1 := cell_later hb kc1
                  replace kd0 := cell_later hb kd0
                  replace kd1 := cell_later hb kd1
                  replace km0 := cell_later hb km0
                  replace km1 := cell_later hb km1
                  replace km2 := cell_later hb km2
                  replace kk0 := cell_later hb kk0
                  replace kk1 := cell_later hb kk1
                  replace kk2 := cell_later hb kk2
                  replace ks0 := cell_later hb ks0
                  replace ks1 := cell_later hb ks1
                  replace zt : w.heap.size < w14.heap.size := World.block_lt_of_cell? _ _ kt0
                  have zt_w14 := zt
                  replace zu : w.heap.size + 1 < w14.heap.size := World.block_lt_of_cell? _ _ ku0
                  have zu_w14 := zu
                  replace zj : w4.heap.size < w14.heap.size := World.block_lt_of_cell? _ _ kj0
                  have zj_w14 := zj
                  replace za : w5.heap.size < w14.heap.size := World.block_lt_of_cell? _ _ ka0
                  have za_w14 := za
                  replace zb : w6.heap.size < w14.heap.size := World.block_lt_of_cell? _ _ kb0
                  have zb_w14 := zb
                  replace zc : w7.heap.size < w14.heap.size := World.block_lt_of_cell? _ _ kc0
                  have zc_w14 := zc
                  replace zd : w8.heap.size < w14.heap.size := World.block_lt_of_cell? _ _ kd0
                  have zd_w14 := zd
                  replace zm : w9.heap.size < w14.heap.size := World.block_lt_of_cell? _ _ km0
                  have zm_w14 := zm
                  replace zk : w10.heap.size < w14.heap.size := World.block_lt_of_cell? _ _ kk0
                  have zk_w14 := zk
                  replace zs : w11.heap.size < w14.heap.size := World.block_lt_of_cell? _ _ ks0
                  have zs_w14 := zs
                  replace hb0 : Below w.heap.size w w14 := (by repeat (first | with_reducible exact Below.refl _ _ | with_reducible assumption | with_reducible refine Below.setCell ?_ (by first | omega | (simp <;> omega)) _ | with_reducible refine balloc ?_ _ | with_reducible refine Below.drew ?_ | with_reducible refine bstep ?_ (by with_reducible assumption)))
                  have hs_w14 : w13.heap.size ≤ w14.heap.size := hb.size
                  clear hb
                  go_wp2
                  go_ret
                  exact ⟨rfl, (by repeat (first | with_reducible exact Below.refl _ _ | with_reducible assumption | with_reducible refine Below.setCell ?_ (by first | omega | (simp <;> omega)) _ | with_reducible refine balloc ?_ _ | with_reducible refine Below.drew ?_ | with_reducible refine bstep ?_ (by with_reducible assumption)))⟩
                · have q3 : need ≤ c1 := by omega
                  have q4 : need ≤ d1 := by omega
                  clear hdn hcc hcn hc1
                  go_enter Try.func8, Try.ntmps8
                  go_wp2_with fail
                  refine Calls.mono (head_c _) ?_
                  rintro e w1 ⟨rfl, hb⟩
                  have kt0 : w1.cell? ⟨w.heap.size, 0, none⟩ = some (.int .i64 s) := cell_later hb (by go_simp)
                  have kt1 : w1.cell? ⟨w.heap.size, 1, none⟩ = some (.int .i64 p) := cell_later hb (by go_simp)
                  have kt2 : w1.cell? ⟨w.heap.size, 2, none⟩ = some (.slice pp l.length cap) := cell_later hb (by go_simp)
                  have ku0 : w1.cell? ⟨w.heap.size + 1, 0, none⟩ = some (.int .i64 s) := cell_later hb (by go_simp)
                  have ku1 : w1.cell? ⟨w.heap.size + 1, 1, none⟩ = some (.int .i64 p) := cell_later hb (by go_simp)
                  have ku2 : w1.cell? ⟨w.heap.size + 1, 2, none⟩ = some (.slice pp2 l2.length cap2) := cell_later hb (by go_simp)
                  have zt : w.heap.size < w1.heap.size := World.block_lt_of_cell? _ _ kt0
                  have zt_w1 := zt
                  have zu : w.heap.size + 1 < w1.heap.size := World.block_lt_of_cell? _ _ ku0
                  have zu_w1 := zu
                  have hb0 : Below w.heap.size w w1 := (by repeat (first | with_reducible exact Below.refl _ _ | with_reducible assumption | with_reducible refine Below.setCell ?_ (by first | omega | (simp <;> omega)) _ | with_reducible refine balloc ?_ _ | with_reducible refine Below.drew ?_ | with_reducible refine bstep ?_ (by with_reducible assumption)))
                  have hs_w1 := hb.size; (try simp only [World.size_alloc, World.size_setCell] at hs_w1)
                  clear hb
                  go_wp2_with fail
                  refine Calls.mono (F1 _ (by repeat (first | with_reducible exact Below.refl _ _ | with_reducible assumption | with_reducible refine Below.setCell ?_ (by first | omega | (simp <;> omega)) _ | with_reducible refine balloc ?_ _ | with_reducible refine Below.drew ?_ | with_reducible refine bstep ?_ (by with_reducible assumption)))) ?_
                  rintro e w2 ⟨rfl, hb⟩
                  replace kt0 := cell_later hb kt0
                  replace kt1 := cell_later hb kt1
                  replace kt2 := cell_later hb kt2
                  replace ku0 := cell_later hb ku0
                  replace ku1 := cell_later hb ku1
                  replace ku2 := cell_later hb ku2
                  replace zt : w.heap.size < w2.heap.size := World.block_lt_of_cell? _ _ kt0
                  have zt_w2 := zt
                  replace zu : w.heap.size + 1 < w2.heap.size := World.block_lt_of_cell? _ _ ku0
                  have zu_w2 := zu
                  replace hb0 : Below w.heap.size w w2 := (by repeat (first | with_reducible exact Below.refl _ _ | with_reducible assumption | with_reducible refine Below.setCell ?_ (by first | omega | (simp <;> omega)) _ | with_reducible refine balloc ?_ _ | with_reducible refine Below.drew ?_ | with_reducible refine bstep ?_ (by with_reducible assumption)))
                  have hs_w2 : w1.heap.size ≤ w2.heap.size := hb.size
                  clear hb
                  go_wp2_with fail
                  refine Calls.mono (F2 _ (by repeat (first | with_reducible exact Below.refl _ _ | with_reducible assumption | with_reducible refine Below.setCell ?_ (by first | omega | (simp <;> omega)) _ | with_reducible refine balloc ?_ _ | with_reducible refine Below.drew ?_ | with_reducible refine bstep ?_ (by with_reducible assumption)))) ?_
                  rintro e w3 ⟨rfl, hb⟩
                  replace kt0 := cell_later hb kt0
                  replace kt1 := cell_later hb kt1
                  replace kt2 := cell_later hb kt2
                  replace ku0 := cell_later hb ku0
                  replace ku1 := cell_later hb ku1
                  replace ku2 := cell_later hb ku2
                  replace zt : w.heap.size < w3.heap.size := World.block_lt_of_cell? _ _ kt0
                  have zt_w3 := zt
                  replace zu : w.heap.size + 1 < w3.heap.size := World.block_lt_of_cell? _ _ ku0
                  have zu_w3 := zu
                  replace hb0 : Below w.heap.size w w3 := (by repeat (first | with_reducible exact Below.refl _ _ | with_reducible assumption | with_reducible refine Below.setCell ?_ (by first | omega | (simp <;> omega)) _ | with_reducible refine balloc ?_ _ | with_reducible refine Below.drew ?_ | with_reducible refine bstep ?_ (by with_reducible assumption)))
                  have hs_w3 : w2.heap.size ≤ w3.heap.size := hb.size
                  clear hb
                  go_wp2_with fail
                  refine Calls.mono (JO2 _ (by repeat (first | with_reducible exact Below.refl _ _ | with_reducible assumption | with_reducible refine Below.setCell ?_ (by first | omega | (simp <;> omega)) _ | with_reducible refine balloc ?_ _ | with_reducible refine Below.drew ?_ | with_reducible refine bstep ?_ (by with_reducible assumption)))) ?_
                  rintro e w4 ⟨v3, rfl, hs3, hfr3, hb⟩
                  replace kt0 := cell_later hb kt0
                  replace kt1 := cell_later hb kt1
                  replace kt2 := cell_later hb kt2
                  replace ku0 := cell_later hb ku0
                  replace ku1 := cell_later hb ku1
                  replace ku2 := cell_later hb ku2
                  replace zt : w.heap.size < w4.heap.size := World.block_lt_of_cell? _ _ kt0
                  have zt_w4 := zt
                  replace zu : w.heap.size + 1 < w4.heap.size := World.block_lt_of_cell? _ _ ku0
                  have zu_w4 := zu
                  replace hb0 : Below w.heap.size w w4 := (by repeat (first | with_reducible exact Below.refl _ _ | with_reducible assumption | with_reducible refine Below.setCell ?_ (by first | omega | (simp <;> omega)) _ | with_reducible refine balloc ?_ _ | with_reducible refine Below.drew ?_ | with_reducible refine bstep ?_ (by with_reducible assumption)))
                  have hs_w4 : w3.heap.size ≤ w4.heap.size := hb.size
                  clear hb
                  obtain ⟨⟨pp3, cap3, rfl, _, _, _⟩, _⟩ := id hs3
                  rw [HJL.out] at hs3 ⊢
                  go_wp2_with fail
                  refine Calls.mono (HA _ (by repeat (first | with_reducible exact Below.refl _ _ | with_reducible assumption | with_reducible refine Below.setCell ?_ (by first | omega | (simp <;> omega)) _ | with_reducible refine balloc ?_ _ | with_reducible refine Below.drew ?_ | with_reducible refine bstep ?_ (by with_reducible assumption)))) ?_
                  rintro e w5 ⟨rfl, hb⟩
                  have hcx : Below w4.heap.size w4 w5 := (by repeat (first | with_reducible exact Below.refl _ _ | with_reducible assumption | with_reducible refine Below.setCell ?_ (by first | omega | (simp <;> omega)) _ | with_reducible refine balloc ?_ _ | with_reducible refine Below.drew ?_ | with_reducible refine bstep ?_ (by with_reducible assumption)))
                  replace hs3 := hs3.below hcx
                  clear hcx
                  replace kt0 := cell_later hb (cell_al _ kt0)
                  replace kt1 := cell_later hb (cell_al _ kt1)
                  replace kt2 := cell_later hb (cell_al _ kt2)
                  replace ku0 := cell_later hb (cell_al _ ku0)
                  replace ku1 := cell_later hb (cell_al _ ku1)
                  replace ku2 := cell_later hb (cell_al _ ku2)
                  have kj0 : w5.cell? ⟨w4.heap.size, 0, none⟩ = some (.int .i64 s) := cell_later hb (by go_simp)
                  have kj1 : w5.cell? ⟨w4.heap.size, 1, none⟩ = some (.int .i64 p) := cell_later hb (by go_simp)
                  have kj2 : w5.cell? ⟨w4.heap.size, 2, none⟩ = some (.slice pp3 l.length cap3) := cell_later hb (by go_simp)
                  replace zt : w.heap.size < w5.heap.size := World.block_lt_of_cell? _ _ kt0
                  have zt_w5 := zt
                  replace zu : w.heap.size + 1 < w5.heap.size := World.block_lt_of_cell? _ _ ku0
                  have zu_w5 := zu
                  have zj : w4.heap.size < w5.heap.size := World.block_lt_of_cell? _ _ kj0
                  have zj_w5 := zj
                  replace hb0 : Below w.heap.size w w5 := (by repeat (first | with_reducible exact Below.refl _ _ | with_reducible assumption | with_reducible refine Below.setCell ?_ (by first | omega | (simp <;> omega)) _ | with_reducible refine balloc ?_ _ | with_reducible refine Below.drew ?_ | with_reducible refine bstep ?_ (by with_reducible assumption)))
                  have hs_w5 := hb.size; (try simp only [World.size_alloc, World.size_setCell] at hs_w5)
                  clear hb
                  go_wp2_with fail
                  refine Calls.mono (HB _ (by repeat (first | with_reducible exact Below.refl _ _ | with_reducible assumption | with_reducible refine Below.setCell ?_ (by first | omega | (simp <;> omega)) _ | with_reducible refine balloc ?_ _ | with_reducible refine Below.drew ?_ | with_reducible refine bstep ?_ (by with_reducible assumption)))) ?_
                  rintro e w6 ⟨rfl, hb⟩
                  have hcx : Below w5.heap.size w5 w6 := (by repeat (first | with_reducible exact Below.refl _ _ | with_reducible assumption | with_reducible refine Below.setCell ?_ (by first | omega | (simp <;> omega)) _ | with_reducible refine balloc ?_ _ | with_reducible refine Below.drew ?_ | with_reducible refine bstep ?_ (by with_reducible assumption)))
                  replace hs3 := hs3.below hcx
                  clear hcx
                  replace kt0 := cell_later hb (cell_al _ kt0)
                  replace kt1 := cell_later hb (cell_al _ kt1)
                  replace kt2 := cell_later hb (cell_al _ kt2)
                  replace ku0 := cell_later hb (cell_al _ ku0)
                  replace ku1 := cell_later hb (cell_al _ ku1)
                  replace ku2 := cell_later hb (cell_al _ ku2)
                  replace kj0 := cell_later hb (cell_al _ kj0)
                  replace kj1 := cell_later hb (cell_al _ kj1)
                  replace kj2 := cell_later hb (cell_al _ kj2)
                  have ka0 : w6.cell? ⟨w5.heap.size, 0, none⟩ = some (.int .i64 a1) := cell_later hb (by go_simp)
                  have ka1 : w6.cell? ⟨w5.heap.size, 1, none⟩ = some (.int .i64 a2) := cell_later hb (by go_simp)
                  replace zt : w.heap.size < w6.heap.size := World.block_lt_of_cell? _ _ kt0
                  have zt_w6 := zt
                  replace zu : w.heap.size + 1 < w6.heap.size := World.block_lt_of_cell? _ _ ku0
                  have zu_w6 := zu
                  replace zj : w4.heap.size < w6.heap.size := World.block_lt_of_cell? _ _ kj0
                  have zj_w6 := zj
                  have za : w5.heap.size < w6.heap.size := World.block_lt_of_cell? _ _ ka0
                  have za_w6 := za
                  replace hb0 : Below w.heap.size w w6 := (by repeat (first | with_reducible exact Below.refl _ _ | with_reducible assumption | with_reducible refine Below.setCell ?_ (by first | omega | (simp <;> omega)) _ | with_reducible refine balloc ?_ _ | with_reducible refine Below.drew ?_ | with_reducible refine bstep ?_ (by with_reducible assumption)))
                  have hs_w6 := hb.size; (try simp only [World.size_alloc, World.size_setCell] at hs_w6)
                  clear hb
                  go_wp2_with fail
                  refine Calls.mono (HJ _ _ (hs3.below (by repeat (first | with_reducible exact Below.refl _ _ | with_reducible assumption | with_reducible refine Below.setCell ?_ (by first | omega | (simp <;> omega)) _ | with_reducible refine balloc ?_ _ | with_reducible refine Below.drew ?_ | with_reducible refine bstep ?_ (by with_reducible assumption))))) ?_
                  rintro e w7 ⟨rfl, hb⟩
                  have hcx : Below w6.heap.size w6 w7 := (by repeat (first | with_reducible exact Below.refl _ _ | with_reducible assumption | with_reducible refine Below.setCell ?_ (by first | omega | (simp <;> omega)) _ | with_reducible refine balloc ?_ _ | with_reducible refine Below.drew ?_ | with_reducible refine bstep ?_ (by with_reducible assumption)))
                  replace hs3 := hs3.below hcx
                  clear hcx
                  replace kt0 := cell_later hb (cell_al _ kt0)
                  replace kt1 := cell_later hb (cell_al _ kt1)
                  replace kt2 := cell_later hb (cell_al _ kt2)
                  replace ku0 := cell_later hb (cell_al _ ku0)
                  replace ku1 := cell_later hb (cell_al _ ku1)
                  replace ku2 := cell_later hb (cell_al _ ku2)
                  replace kj0 := cell_later hb (cell_al _ kj0)
                  replace kj1 := cell_later hb (cell_al _ kj1)
                  replace kj2 := cell_later hb (cell_al _ kj2)
                  replace ka0 := cell_later hb (cell_al _ ka0)
                  replace ka1 := cell_later hb (cell_al _ ka1)
                  have kb0 : w7.cell? ⟨w6.heap.size, 0, none⟩ = some (.int .i64 b1) := cell_later hb (by go_simp)
                  have kb1 : w7.cell? ⟨w6.heap.size, 1, none⟩ = some (.int .i64 b2) := cell_later hb (by go_simp)
                  replace zt : w.heap.size < w7.heap.size := World.block_lt_of_cell? _ _ kt0
                  have zt_w7 := zt
                  replace zu : w.heap.size + 1 < w7.heap.size := World.block_lt_of_cell? _ _ ku0
                  have zu_w7 := zu
                  replace zj : w4.heap.size < w7.heap.size := World.block_lt_of_cell? _ _ kj0
                  have zj_w7 := zj
                  replace za : w5.heap.size < w7.heap.size := World.block_lt_of_cell? _ _ ka0
                  have za_w7 := za
                  have zb : w6.heap.size < w7.heap.size := World.block_lt_of_cell? _ _ kb0
                  have zb_w7 := zb
                  replace hb0 : Below w.heap.size w w7 := (by repeat (first | with_reducible exact Below.refl _ _ | with_reducible assumption | with_reducible refine Below.setCell ?_ (by first | omega | (simp <;> omega)) _ | with_reducible refine balloc ?_ _ | with_reducible refine Below.drew ?_ | with_reducible refine bstep ?_ (by with_reducible assumption)))
                  have hs_w7 := hb.size; (try simp only [World.size_alloc, World.size_setCell] at hs_w7)
                  clear hb
                  go_wp2_with fail
                  refine Calls.mono (JJ _) ?_
                  rintro e w8 ⟨rfl, hb⟩
                  have hcx : Below w7.heap.size w7 w8 := (by repeat (first | with_reducible exact Below.refl _ _ | with_reducible assumption | with_reducible refine Below.setCell ?_ (by first | omega | (simp <;> omega)) _ | with_reducible refine balloc ?_ _ | with_reducible refine Below.drew ?_ | with_reducible refine bstep ?_ (by with_reducible assumption)))
                  replace hs3 := hs3.below hcx
                  clear hcx
                  replace kt0 := cell_later hb (cell_al _ kt0)
                  replace kt1 := cell_later hb (cell_al _ kt1)
                  replace kt2 := cell_later hb (cell_al _ kt2)
                  replace ku0 := cell_later hb (cell_al _ ku0)
                  replace ku1 := cell_later hb (cell_al _ ku1)
                  replace ku2 := cell_later hb (cell_al _ ku2)
                  replace kj0 := cell_later hb (cell_al _ kj0)
                  replace kj1 := cell_later hb (cell_al _ kj1)
                  replace kj2 := cell_later hb (cell_al _ kj2)
                  replace ka0 := cell_later hb (cell_al _ ka0)
                  replace ka1 := cell_later hb (cell_al _ ka1)
                  replace kb0 := cell_later hb (cell_al _ kb0)
                  replace kb1 := cell_later hb (cell_al _ kb1)
                  have kc0 : w8.cell? ⟨w7.heap.size, 0, none⟩ = some (.int .i64 c1) := cell_later hb (by go_simp)
                  have kc1 : w8.cell? ⟨w7.heap.size, 1, none⟩ = some (.int .i64 c2) := cell_later hb (by go_simp)
                  replace zt : w.heap.size < w8.heap.size := World.block_lt_of_cell? _ _ kt0
                  have zt_w8 := zt
                  replace zu : w.heap.size + 1 < w8.heap.size := World.block_lt_of_cell? _ _ ku0
                  have zu_w8 := zu
                  replace zj : w4.heap.size < w8.heap.size := World.block_lt_of_cell? _ _ kj0
                  have zj_w8 := zj
                  replace za : w5.heap.size < w8.heap.size := World.block_lt_of_cell? _ _ ka0
                  have za_w8 := za
                  replace zb : w6.heap.size < w8.heap.size := World.block_lt_of_cell? _ _ kb0
                  have zb_w8 := zb
                  have zc : w7.heap.size < w8.heap.size := World.block_lt_of_cell? _ _ kc0
                  have zc_w8 := zc
                  replace hb0 : Below w.heap.size w w8 := (by repeat (first | with_reducible exact Below.refl _ _ | with_reducible assumption | with_reducible refine Below.setCell ?_ (by first | omega | (simp <;> omega)) _ | with_reducible refine balloc ?_ _ | with_reducible refine Below.drew ?_ | with_reducible refine bstep ?_ (by with_reducible assumption)))
                  have hs_w8 := hb.size; (try simp only [World.size_alloc, World.size_setCell] at hs_w8)
                  clear hb
                  go_wp2_with fail
                  refine Calls.mono (ME2 _ (by repeat (first | with_reducible exact Below.refl _ _ | with_reducible assumption | with_reducible refine Below.setCell ?_ (by first | omega | (simp <;> omega)) _ | with_reducible refine balloc ?_ _ | with_reducible refine Below.drew ?_ | with_reducible refine bstep ?_ (by with_reducible assumption)))) ?_
                  rintro e w9 ⟨v4, rfl, hs4, hfr4, hb⟩
                  have hcx : Below w8.heap.size w8 w9 := (by repeat (first | with_reducible exact Below.refl _ _ | with_reducible assumption | with_reducible refine Below.setCell ?_ (by first | omega | (simp <;> omega)) _ | with_reducible refine balloc ?_ _ | with_reducible refine Below.drew ?_ | with_reducible refine bstep ?_ (by with_reducible assumption)))
                  replace hs3 := hs3.below hcx
                  clear hcx
                  replace kt0 := cell_later hb (cell_al _ kt0)
                  replace kt1 := cell_later hb (cell_al _ kt1)
                  replace kt2 := cell_later hb (cell_al _ kt2)
                  replace ku0 := cell_later hb (cell_al _ ku0)
                  replace ku1 := cell_later hb (cell_al _ ku1)
                  replace ku2 := cell_later hb (cell_al _ ku2)
                  replace kj0 := cell_later hb (cell_al _ kj0)
                  replace kj1 := cell_later hb (cell_al _ kj1)
                  replace kj2 := cell_later hb (cell_al _ kj2)
                  replace ka0 := cell_later hb (cell_al _ ka0)
                  replace ka1 := cell_later hb (cell_al _ ka1)
                  replace kb0 := cell_later hb (cell_al _ kb0)
                  replace kb1 := cell_later hb (cell_al _ kb1)
                  replace kc0 := cell_later hb (cell_al _ kc0)
                  replace kc1 := cell_later hb (cell_al _ kc1)
                  have kd0 : w9.cell? ⟨w8.heap.size, 0, none⟩ = some (.int .i64 c1) := cell_later hb (by go_simp)
                  have kd1 : w9.cell? ⟨w8.heap.size, 1, none⟩ = some (.int .i64 c2) := cell_later hb (by go_simp)
                  replace zt : w.heap.size < w9.heap.size := World.block_lt_of_cell? _ _ kt0
                  have zt_w9 := zt
                  replace zu : w.heap.size + 1 < w9.heap.size := World.block_lt_of_cell? _ _ ku0
                  have zu_w9 := zu
                  replace zj : w4.heap.size < w9.heap.size := World.block_lt_of_cell? _ _ kj0
                  have zj_w9 := zj
                  replace za : w5.heap.size < w9.heap.size := World.block_lt_of_cell? _ _ ka0
                  have za_w9 := za
                  replace zb : w6.heap.size < w9.heap.size := World.block_lt_of_cell? _ _ kb0
                  have zb_w9 := zb
                  replace zc : w7.heap.size < w9.heap.size := World.block_lt_of_cell? _ _ kc0
                  have zc_w9 := zc
                  have zd : w8.heap.size < w9.heap.size := World.block_lt_of_cell? _ _ kd0
                  have zd_w9 := zd
                  replace hb0 : Below w.heap.size w w9 := (by repeat (first | with_reducible exact Below.refl _ _ | with_reducible assumption | with_reducible refine Below.setCell ?_ (by first | omega | (simp <;> omega)) _ | with_reducible refine balloc ?_ _ | with_reducible refine Below.drew ?_ | with_reducible refine bstep ?_ (by with_reducible assumption)))
                  have hs_w9 := hb.size; (try simp only [World.size_alloc, World.size_setCell] at hs_w9)
                  clear hb
                  obtain ⟨⟨pp4, cap4, rfl, _, _, _⟩, _⟩ := id hs4
                  rw [HML.out] at hs4 ⊢
                  go_wp2_with fail
                  refine Calls.mono (MB2 _ (by repeat (first | with_reducible exact Below.refl _ _ | with_reducible assumption | with_reducible refine Below.setCell ?_ (by first | omega | (simp <;> omega)) _ | with_reducible refine balloc ?_ _ | with_reducible refine Below.drew ?_ | with_reducible refine bstep ?_ (by with_reducible assumption)))) ?_
                  rintro e w10 ⟨v5, rfl, hs5, hfr5, hb⟩
                  have hcx : Below w9.heap.size w9 w10 := (by repeat (first | with_reducible exact Below.refl _ _ | with_reducible assumption | with_reducible refine Below.setCell ?_ (by first | omega | (simp <;> omega)) _ | with_reducible refine balloc ?_ _ | with_reducible refine Below.drew ?_ | with_reducible refine bstep ?_ (by with_reducible assumption)))
                  replace hs3 := hs3.below hcx
                  replace hs4 := hs4.below hcx
                  clear hcx
                  replace kt0 := cell_later hb (cell_al _ kt0)
                  replace kt1 := cell_later hb (cell_al _ kt1)
                  replace kt2 := cell_later hb (cell_al _ kt2)
                  replace ku0 := cell_later hb (cell_al _ ku0)
                  replace ku1 := cell_later hb (cell_al _ ku1)
                  replace ku2 := cell_later hb (cell_al _ ku2)
                  replace kj0 := cell_later hb (cell_al _ kj0)
                  replace kj1 := cell_later hb (cell_al _ kj1)
                  replace kj2 := cell_later hb (cell_al _ kj2)
                  replace ka0 := cell_later hb (cell_al _ ka0)
                  replace ka1 := cell_later hb (cell_al _ ka1)
                  replace kb0 := cell_later hb (cell_al _ kb0)
                  replace kb1 := cell_later hb (cell_al _ kb1)
                  replace kc0 := cell_later hb (cell_al _ kc0)
                  replace kc1 := cell_later hb (cell_al _ kc1)
                  replace kd0 := cell_later hb (cell_al _ kd0)
                  replace kd1 := cell_later hb (cell_al _ kd1)
                  have km0 : w10.cell? ⟨w9.heap.size, 0, none⟩ = some (.int .i64 s) := cell_later hb (by go_simp)
                  have km1 : w10.cell? ⟨w9.heap.size, 1, none⟩ = some (.int .i64 p) := cell_later hb (by go_simp)
                  have km2 : w10.cell? ⟨w9.heap.size, 2, none⟩ = some (.slice pp4 l.length cap4) := cell_later hb (by go_simp)
                  replace zt : w.heap.size < w10.heap.size := World.block_lt_of_cell? _ _ kt0
                  have zt_w10 := zt
                  replace zu : w.heap.size + 1 < w10.heap.size := World.block_lt_of_cell? _ _ ku0
                  have zu_w10 := zu
                  replace zj : w4.heap.size < w10.heap.size := World.block_lt_of_cell? _ _ kj0
                  have zj_w10 := zj
                  replace za : w5.heap.size < w10.heap.size := World.block_lt_of_cell? _ _ ka0
                  have za_w10 := za
                  replace zb : w6.heap.size < w10.heap.size := World.block_lt_of_cell? _ _ kb0
                  have zb_w10 := zb
                  replace zc : w7.heap.size < w10.heap.size := World.block_lt_of_cell? _ _ kc0
                  have zc_w10 := zc
                  replace zd : w8.heap.size < w10.heap.size := World.block_lt_of_cell? _ _ kd0
                  have zd_w10 := zd
                  have zm : w9.heap.size < w10.heap.size := World.block_lt_of_cell? _ _ km0
                  have zm_w10 := zm
                  replace hb0 : Below w.heap.size w w10 := (by repeat (first | with_reducible exact Below.refl _ _ | with_reducible assumption | with_reducible refine Below.setCell ?_ (by first | omega | (simp <;> omega)) _ | with_reducible refine balloc ?_ _ | with_reducible refine Below.drew ?_ | with_reducible refine bstep ?_ (by with_reducible assumption)))
                  have hs_w10 := hb.size; (try simp only [World.size_alloc, World.size_setCell] at hs_w10)
                  clear hb
                  obtain ⟨⟨pp5, cap5, rfl, _, _, _⟩, _⟩ := id hs5
                  rw [HML.out] at hs5 ⊢
                  go_wp2_with fail
                  refine Calls.mono (HM _ _ (hs4.below (by repeat (first | with_reducible exact Below.refl _ _ | with_reducible assumption | with_reducible refine Below.setCell ?_ (by first | omega | (simp <;> omega)) _ | with_reducible refine balloc ?_ _ | with_reducible refine Below.drew ?_ | with_reducible refine bstep ?_ (by with_reducible assumption))))) ?_
                  rintro e w11 ⟨rfl, hb⟩
                  have hcx : Below w10.heap.size w10 w11 := (by repeat (first | with_reducible exact Below.refl _ _ | with_reducible assumption | with_reducible refine Below.setCell ?_ (by first | omega | (simp <;> omega)) _ | with_reducible refine balloc ?_ _ | with_reducible refine Below.drew ?_ | with_reducible refine bstep ?_ (by with_reducible assumption)))
                  replace hs3 := hs3.below hcx
                  replace hs4 := hs4.below hcx
                  replace hs5 := hs5.below hcx
                  clear hcx
                  replace kt0 := cell_later hb (cell_al _ kt0)
                  replace kt1 := cell_later hb (cell_al _ kt1)
                  replace kt2 := cell_later hb (cell_al _ kt2)
                  replace ku0 := cell_later hb (cell_al _ ku0)
                  replace ku1 := cell_later hb (cell_al _ ku1)
                  replace ku2 := cell_later hb (cell_al _ ku2)
                  replace kj0 := cell_later hb (cell_al _ kj0)
                  replace kj1 := cell_later hb (cell_al _ kj1)
                  replace kj2 := cell_later hb (cell_al _ kj2)
                  replace ka0 := cell_later hb (cell_al _ ka0)
                  replace ka1 := cell_later hb (cell_al _ ka1)
                  replace kb0 := cell_later hb (cell_al _ kb0)
                  replace kb1 := cell_later hb (cell_al _ kb1)
                  replace kc0 := cell_later hb (cell_al _ kc0)
                  replace kc1 := cell_later hb (cell_al _ kc1)
                  replace kd0 := cell_later hb (cell_al _ kd0)
                  replace kd1 := cell_later hb (cell_al _ kd1)
                  replace km0 := cell_later hb (cell_al _ km0)
                  replace km1 := cell_later hb (cell_al _ km1)
                  replace km2 := cell_later hb (cell_al _ km2)
                  have kk0 : w11.cell? ⟨w10.heap.size, 0, none⟩ = some (.int .i64 s) := cell_later hb (by go_simp)
                  have kk1 : w11.cell? ⟨w10.heap.size, 1, none⟩ = some (.int .i64 p) := cell_later hb (by go_simp)
                  have kk2 : w11.cell? ⟨w10.heap.size, 2, none⟩ = some (.slice pp5 l.length cap5) := cell_later hb (by go_simp)
                  replace zt : w.heap.size < w11.heap.size := World.block_lt_of_cell? _ _ kt0
                  have zt_w11 := zt
                  replace zu : w.heap.size + 1 < w11.heap.size := World.block_lt_of_cell? _ _ ku0
                  have zu_w11 := zu
                  replace zj : w4.heap.size < w11.heap.size := World.block_lt_of_cell? _ _ kj0
                  have zj_w11 := zj
                  replace za : w5.heap.size < w11.heap.size := World.block_lt_of_cell? _ _ ka0
                  have za_w11 := za
                  replace zb : w6.heap.size < w11.heap.size := World.block_lt_of_cell? _ _ kb0
                  have zb_w11 := zb
                  replace zc : w7.heap.size < w11.heap.size := World.block_lt_of_cell? _ _ kc0
                  have zc_w11 := zc
                  replace zd : w8.heap.size < w11.heap.size := World.block_lt_of_cell? _ _ kd0
                  have zd_w11 := zd
                  replace zm : w9.heap.size < w11.heap.size := World.block_lt_of_cell? _ _ km0
                  have zm_w11 := zm
                  have zk : w10.heap.size < w11.heap.size := World.block_lt_of_cell? _ _ kk0
                  have zk_w11 := zk
                  replace hb0 : Below w.heap.size w w11 := (by repeat (first | with_reducible exact Below.refl _ _ | with_reducible assumption | with_reducible refine Below.setCell ?_ (by first | omega | (simp <;> omega)) _ | with_reducible refine balloc ?_ _ | with_reducible refine Below.drew ?_ | with_reducible refine bstep ?_ (by with_reducible assumption)))
                  have hs_w11 := hb.size; (try simp only [World.size_alloc, World.size_setCell] at hs_w11)
                  clear hb
                  go_wp2_with fail
                  refine Calls.mono (WA _) ?_
                  rintro e w12 ⟨rfl, hb⟩
                  have hcx : Below w11.heap.size w11 w12 := (by repeat (first | with_reducible exact Below.refl _ _ | with_reducible assumption | with_reducible refine Below.setCell ?_ (by first | omega | (simp <;> omega)) _ | with_reducible refine balloc ?_ _ | with_reducible refine Below.drew ?_ | with_reducible refine bstep ?_ (by with_reducible assumption)))
                  replace hs3 := hs3.below hcx
                  replace hs4 := hs4.below hcx
                  replace hs5 := hs5.below hcx
                  clear hcx
                  replace kt0 := cell_later hb (cell_al _ kt0)
                  replace kt1 := cell_later hb (cell_al _ kt1)
                  replace kt2 := cell_later hb (cell_al _ kt2)
                  replace ku0 := cell_later hb (cell_al _ ku0)
                  replace ku1 := cell_later hb (cell_al _ ku1)
                  replace ku2 := cell_later hb (cell_al _ ku2)
                  replace kj0 := cell_later hb (cell_al _ kj0)
                  replace kj1 := cell_later hb (cell_al _ kj1)
                  replace kj2 := cell_later hb (cell_al _ kj2)
                  replace ka0 := cell_later hb (cell_al _ ka0)
                  replace ka1 := cell_later hb (cell_al _ ka1)
                  replace kb0 := cell_later hb (cell_al _ kb0)
                  replace kb1 := cell_later hb (cell_al _ kb1)
                  replace kc0 := cell_later hb (cell_al _ kc0)
                  replace kc1 := cell_later hb (cell_al _ kc1)
                  replace kd0 := cell_later hb (cell_al _ kd0)
                  replace kd1 := cell_later hb (cell_al _ kd1)
                  replace km0 := cell_later hb (cell_al _ km0)
                  replace km1 := cell_later hb (cell_al _ km1)
                  replace km2 := cell_later hb (cell_al _ km2)
                  replace kk0 := cell_later hb (cell_al _ kk0)
                  replace kk1 := cell_later hb (cell_al _ kk1)
                  replace kk2 := cell_later hb (cell_al _ kk2)
                  have ks0 : w12.cell? ⟨w11.heap.size, 0, none⟩ = some (.int .i64 d1) := cell_later hb (by go_simp)
                  have ks1 : w12.cell? ⟨w11.heap.size, 1, none⟩ = some (.int .i64 d2) := cell_later hb (by go_simp)
                  replace zt : w.heap.size < w12.heap.size := World.block_lt_of_cell? _ _ kt0
                  have zt_w12 := zt
                  replace zu : w.heap.size + 1 < w12.heap.size := World.block_lt_of_cell? _ _ ku0
                  have zu_w12 := zu
                  replace zj : w4.heap.size < w12.heap.size := World.block_lt_of_cell? _ _ kj0
                  have zj_w12 := zj
                  replace za : w5.heap.size < w12.heap.size := World.block_lt_of_cell? _ _ ka0
                  have za_w12 := za
                  replace zb : w6.heap.size < w12.heap.size := World.block_lt_of_cell? _ _ kb0
                  have zb_w12 := zb
                  replace zc : w7.heap.size < w12.heap.size := World.block_lt_of_cell? _ _ kc0
                  have zc_w12 := zc
                  replace zd : w8.heap.size < w12.heap.size := World.block_lt_of_cell? _ _ kd0
                  have zd_w12 := zd
                  replace zm : w9.heap.size < w12.heap.size := World.block_lt_of_cell? _ _ km0
                  have zm_w12 := zm
                  replace zk : w10.heap.size < w12.heap.size := World.block_lt_of_cell? _ _ kk0
                  have zk_w12 := zk
                  have zs : w11.heap.size < w12.heap.size := World.block_lt_of_cell? _ _ ks0
                  have zs_w12 := zs
                  replace hb0 : Below w.heap.size w w12 := (by repeat (first | with_reducible exact Below.refl _ _ | with_reducible assumption | with_reducible refine Below.setCell ?_ (by first | omega | (simp <;> omega)) _ | with_reducible refine balloc ?_ _ | with_reducible refine Below.drew ?_ | with_reducible refine bstep ?_ (by with_reducible assumption)))
                  have hs_w12 := hb.size; (try simp only [World.size_alloc, World.size_setCell] at hs_w12)
                  clear hb
                  go_wp2_with fail
                  refine Calls.mono (WB _) ?_
                  rintro e w13 ⟨rfl, hb⟩
                  have hcx : Below w12.heap.size w12 w13 := (by repeat (first | with_reducible exact Below.refl _ _ | with_reducible assumption | with_reducible refine Below.setCell ?_ (by first | omega | (simp <;> omega)) _ | with_reducible refine balloc ?_ _ | with_reducible refine Below.drew ?_ | with_reducible refine bstep ?_ (by with_reducible assumption)))
                  replace hs3 := hs3.below hcx
                  replace hs4 := hs4.below hcx
                  replace hs5 := hs5.below hcx
                  clear hcx
                  replace kt0 := cell_later hb kt0
                  replace kt1 := cell_later hb kt1
                  replace kt2 := cell_later hb kt2
                  replace ku0 := cell_later hb ku0
                  replace ku1 := cell_later hb ku1
                  replace ku2 := cell_later hb ku2
                  replace kj0 := cell_later hb kj0
                  replace kj1 := cell_later hb kj1
                  replace kj2 := cell_later hb kj2
                  replace ka0 := cell_later hb ka0
                  replace ka1 := cell_later hb ka1
                  replace kb0 := cell_later hb kb0
                  replace kb1 := cell_later hb kb1
                  replace kc0 := cell_later hb kc0
                  replace kc1 := cell_later hb kc1
                  replace kd0 := cell_later hb kd0
                  replace kd1 := cell_later hb kd1
                  replace km0 := cell_later hb km0
                  replace km1 := cell_later hb km1
                  replace km2 := cell_later hb km2
                  replace kk0 := cell_later hb kk0
                  replace kk1 := cell_later hb kk1
                  replace kk2 := cell_later hb kk2
                  replace ks0 := cell_later hb ks0
                  replace ks1 := cell_later hb ks1
                  replace zt : w.heap.size < w13.heap.size := World.block_lt_of_cell? _ _ kt0
                  have zt_w13 := zt
                  replace zu : w.heap.size + 1 < w13.heap.size := World.block_lt_of_cell? _ _ ku0
                  have zu_w13 := zu
                  replace zj : w4.heap.size < w13.heap.size := World.block_lt_of_cell? _ _ kj0
                  have zj_w13 := zj
                  replace za : w5.heap.size < w13.heap.size := World.block_lt_of_cell? _ _ ka0
                  have za_w13 := za
                  replace zb : w6.heap.size < w13.heap.size := World.block_lt_of_cell? _ _ kb0
                  have zb_w13 := zb
                  replace zc : w7.heap.size < w13.heap.size := World.block_lt_of_cell? _ _ kc0
                  have zc_w13 := zc
                  replace zd : w8.heap.size < w13.heap.size := World.block_lt_of_cell? _ _ kd0
                  have zd_w13 := zd
                  replace zm : w9.heap.size < w13.heap.size := World.block_lt_of_cell? _ _ km0
                  have zm_w13 := zm
                  replace zk : w10.heap.size < w13.heap.size := World.block_lt_of_cell? _ _ kk0
                  have zk_w13 := zk
                  replace zs : w11.heap.size < w13.heap.size := World.block_lt_of_cell? _ _ ks0
                  have zs_w13 := zs
                  replace hb0 : Below w.heap.size w w13 := (by repeat (first | with_reducible exact Below.refl _ _ | with_reducible assumption | with_reducible refine Below.setCell ?_ (by first | omega | (simp <;> omega)) _ | with_reducible refine balloc ?_ _ | with_reducible refine Below.drew ?_ | with_reducible refine bstep ?_ (by with_reducible assumption)))
                  have hs_w13 : w12.heap.size ≤ w13.heap.size := hb.size
                  clear hb
                  go_wp2_with fail
                  refine Calls.mono (same_t s p _ _ lm _ (hs4.below (by repeat (first | with_reducible exact Below.refl _ _ | with_reducible assumption | with_reducible refine Below.setCell ?_ (by first | omega | (simp <;> omega)) _ | with_reducible refine balloc ?_ _ | with_reducible refine Below.drew ?_ | with_reducible refine bstep ?_ (by with_reducible assumption)))) (hs5.below (by repeat (first | with_reducible exact Below.refl _ _ | with_reducible assumption | with_reducible refine Below.setCell ?_ (by first | omega | (simp <;> omega)) _ | with_reducible refine balloc ?_ _ | with_reducible refine Below.drew ?_ | with_reducible refine bstep ?_ (by with_reducible assumption))))) ?_
                  rintro e w14 ⟨rfl, hb⟩
                  have hcx : Below w13.heap.size w13 w14 := (by repeat (first | with_reducible exact Below.refl _ _ | with_reducible assumption | with_reducible refine Below.setCell ?_ (by first | omega | (simp <;> omega)) _ | with_reducible refine balloc ?_ _ | with_reducible refine Below.drew ?_ | with_reducible refine bstep ?_ (by with_reducible assumption)))
                  replace hs3 := hs3.below hcx
                  replace hs4 := hs4.below hcx
                  replace hs5 := hs5.below hcx
                  clear hcx
                  replace kt0 := cell_later hb kt0
                  replace kt1 := cell_later hb kt1
                  replace kt2 := cell_later hb kt2
                  replace ku0 := cell_later hb ku0
                  replace ku1 := cell_later hb ku1
                  replace ku2 := cell_later hb ku2
                  replace kj0 := cell_later hb kj0
                  replace kj1 := cell_later hb kj1
                  replace kj2 := cell_later hb kj2
                  replace ka0 := cell_later hb ka0
                  replace ka1 := cell_later hb ka1
                  replace kb0 := cell_later hb kb0
                  replace kb1 := cell_later hb kb1
                  replace kc0 := cell_later hb kc0
                  replace kc1 := cell_later hb kc1
                  replace kd0 := cell_later hb kd0
                  replace kd1 := cell_later hb kd1
                  replace km0 := cell_later hb km0
                  replace km1 := cell_later hb km1
                  replace km2 := cell_later hb km2
                  replace kk0 := cell_later hb kk0
                  replace kk1 := cell_later hb kk1
                  replace kk2 := cell_later hb kk2
                  replace ks0 := cell_later hb ks0
                  replace ks1 := cell_later hb ks1
                  replace zt : w.heap.size < w14.heap.size := World.block_lt_of_cell? _ _ kt0
                  have zt_w14 := zt
                  replace zu : w.heap.size + 1 < w14.heap.size := World.block_lt_of_cell? _ _ ku0
                  have zu_w14 := zu
                  replace zj : w4.heap.size < w14.heap.size := World.block_lt_of_cell? _ _ kj0
                  have zj_w14 := zj
                  replace za : w5.heap.size < w14.heap.size := World.block_lt_of_cell? _ _ ka0
                  have za_w14 := za
                  replace zb : w6.heap.size < w14.heap.size := World.block_lt_of_cell? _ _ kb0
                  have zb_w14 := zb
                  replace zc : w7.heap.size < w14.heap.size := World.block_lt_of_cell? _ _ kc0
                  have zc_w14 := zc
                  replace zd : w8.heap.size < w14.heap.size := World.block_lt_of_cell? _ _ kd0
                  have zd_w14 := zd
                  replace zm : w9.heap.size < w14.heap.size := World.block_lt_of_cell? _ _ km0
                  have zm_w14 := zm
                  replace zk : w10.heap.size < w14.heap.size := World.block_lt_of_cell? _ _ kk0
                  have zk_w14 := zk
                  replace zs : w11.heap.size < w14.heap.size := World.block_lt_of_cell? _ _ ks0
                  have zs_w14 := zs
                  replace hb0 : Below w.heap.size w w14 := (by repeat (first | with_reducible exact Below.refl _ _ | with_reducible assumption | with_reducible refine Below.setCell ?_ (by first | omega | (simp <;> omega)) _ | with_reducible refine balloc ?_ _ | with_reducible refine Below.drew ?_ | with_reducible refine bstep ?_ (by with_reducible assumption)))
                  have hs_w14 : w13.heap.size ≤ w14.heap.size := hb.size
                  clear hb
                  go_wp2
                  go_ret
                  exact ⟨rfl, (by repeat (first | with_reducible exact Below.refl _ _ | with_reducible assumption | with_reducible refine Below.setCell ?_ (by first | omega | (simp <;> omega)) _ | with_reducible refine balloc ?_ _ | with_reducible refine Below.drew ?_ | with_reducible refine bstep ?_ (by with_reducible assumption)))⟩
          · clear BF ME MB HM
            go_enter Try.func8, Try.ntmps8
            go_wp2_with fail
            refine Calls.mono (head_c _) ?_
            rintro e w1 ⟨rfl, hb⟩
            have kt0 : w1.cell? ⟨w.heap.size, 0, none⟩ = some (.int .i64 s) := cell_later hb (by go_simp)
            have kt1 : w1.cell? ⟨w.heap.size, 1, none⟩ = some (.int .i64 p) := cell_later hb (by go_simp)
            have kt2 : w1.cell? ⟨w.heap.size, 2, none⟩ = some (.slice pp l.length cap) := cell_later hb (by go_simp)
            have ku0 : w1.cell? ⟨w.heap.size + 1, 0, none⟩ = some (.int .i64 s) := cell_later hb (by go_simp)
            have ku1 : w1.cell? ⟨w.heap.size + 1, 1, none⟩ = some (.int .i64 p) := cell_later hb (by go_simp)
            have ku2 : w1.cell? ⟨w.heap.size + 1, 2, none⟩ = some (.slice pp2 l2.length cap2) := cell_later hb (by go_simp)
            have zt : w.heap.size < w1.heap.size := World.block_lt_of_cell? _ _ kt0
            have zt_w1 := zt
            have zu : w.heap.size + 1 < w1.heap.size := World.block_lt_of_cell? _ _ ku0
            have zu_w1 := zu
            have hb0 : Below w.heap.size w w1 := (by repeat (first | with_reducible exact Below.refl _ _ | with_reducible assumption | with_reducible refine Below.setCell ?_ (by first | omega | (simp <;> omega)) _ | with_reducible refine balloc ?_ _ | with_reducible refine Below.drew ?_ | with_reducible refine bstep ?_ (by with_reducible assumption)))
            have hs_w1 := hb.size; (try simp only [World.size_alloc, World.size_setCell] at hs_w1)
            clear hb
            go_wp2_with fail
            refine Calls.mono (F1 _ (by repeat (first | with_reducible exact Below.refl _ _ | with_reducible assumption | with_reducible refine Below.setCell ?_ (by first | omega | (simp <;> omega)) _ | with_reducible refine balloc ?_ _ | with_reducible refine Below.drew ?_ | with_reducible refine bstep ?_ (by with_reducible assumption)))) ?_
            rintro e w2 ⟨rfl, hb⟩
            replace kt0 := cell_later hb kt0
            replace kt1 := cell_later hb kt1
            replace kt2 := cell_later hb kt2
            replace ku0 := cell_later hb ku0
            replace ku1 := cell_later hb ku1
            replace ku2 := cell_later hb ku2
            replace zt : w.heap.size < w2.heap.size := World.block_lt_of_cell? _ _ kt0
            have zt_w2 := zt
            replace zu : w.heap.size + 1 < w2.heap.size := World.block_lt_of_cell? _ _ ku0
            have zu_w2 := zu
            replace hb0 : Below w.heap.size w w2 := (by repeat (first | with_reducible exact Below.refl _ _ | with_reducible assumption | with_reducible refine Below.setCell ?_ (by first | omega | (simp <;> omega)) _ | with_reducible refine balloc ?_ _ | with_reducible refine Below.drew ?_ | with_reducible refine bstep ?_ (by with_reducible assumption)))
            have hs_w2 : w1.heap.size ≤ w2.heap.size := hb.size
            clear hb
            go_wp2_with fail
            refine Calls.mono (F2 _ (by repeat (first | with_reducible exact Below.refl _ _ | with_reducible assumption | with_reducible refine Below.setCell ?_ (by first | omega | (simp <;> omega)) _ | with_reducible refine balloc ?_ _ | with_reducible refine Below.drew ?_ | with_reducible refine bstep ?_ (by with_reducible assumption)))) ?_
            rintro e w3 ⟨rfl, hb⟩
            replace kt0 := cell_later hb kt0
            replace kt1 := cell_later hb kt1
            replace kt2 := cell_later hb kt2
            replace ku0 := cell_later hb ku0
            replace ku1 := cell_later hb ku1
            replace ku2 := cell_later hb ku2
            replace zt : w.heap.size < w3.heap.size := World.block_lt_of_cell? _ _ kt0
            have zt_w3 := zt
            replace zu : w.heap.size + 1 < w3.heap.size := World.block_lt_of_cell? _ _ ku0
            have zu_w3 := zu
            replace hb0 : Below w.heap.size w w3 := (by repeat (first | with_reducible exact Below.refl _ _ | with_reducible assumption | with_reducible refine Below.setCell ?_ (by first | omega | (simp <;> omega)) _ | with_reducible refine balloc ?_ _ | with_reducible refine Below.drew ?_ | with_reducible refine bstep ?_ (by with_reducible assumption)))
            have hs_w3 : w2.heap.size ≤ w3.heap.size := hb.size
            clear hb
            go_wp2_with fail
            refine Calls.mono (JO2 _ (by repeat (first | with_reducible exact Below.refl _ _ | with_reducible assumption | with_reducible refine Below.setCell ?_ (by first | omega | (simp <;> omega)) _ | with_reducible refine balloc ?_ _ | with_reducible refine Below.drew ?_ | with_reducible refine bstep ?_ (by with_reducible assumption)))) ?_
            rintro e w4 ⟨v3, rfl, hs3, hfr3, hb⟩
            replace kt0 := cell_later hb kt0
            replace kt1 := cell_later hb kt1
            replace kt2 := cell_later hb kt2
            replace ku0 := cell_later hb ku0
            replace ku1 := cell_later hb ku1
            replace ku2 := cell_later hb ku2
            replace zt : w.heap.size < w4.heap.size := World.block_lt_of_cell? _ _ kt0
            have zt_w4 := zt
            replace zu : w.heap.size + 1 < w4.heap.size := World.block_lt_of_cell? _ _ ku0
            have zu_w4 := zu
            replace hb0 : Below w.heap.size w w4 := (by repeat (first | with_reducible exact Below.refl _ _ | with_reducible assumption | with_reducible refine Below.setCell ?_ (by first | omega | (simp <;> omega)) _ | with_reducible refine balloc ?_ _ | with_reducible refine Below.drew ?_ | with_reducible refine bstep ?_ (by with_reducible assumption)))
            have hs_w4 : w3.heap.size ≤ w4.heap.size := hb.size
            clear hb
            obtain ⟨⟨pp3, cap3, rfl, _, _, _⟩, _⟩ := id hs3
            rw [HJL.out] at hs3 ⊢
            go_wp2_with fail
            refine Calls.mono (HA _ (by repeat (first | with_reducible exact Below.refl _ _ | with_reducible assumption | with_reducible refine Below.setCell ?_ (by first | omega | (simp <;> omega)) _ | with_reducible refine balloc ?_ _ | with_reducible refine Below.drew ?_ | with_reducible refine bstep ?_ (by with_reducible assumption)))) ?_
            rintro e w5 ⟨rfl, hb⟩
            have hcx : Below w4.heap.size w4 w5 := (by repeat (first | with_reducible exact Below.refl _ _ | with_reducible assumption | with_reducible refine Below.setCell ?_ (by first | omega | (simp <;> omega)) _ | with_reducible refine balloc ?_ _ | with_reducible refine Below.drew ?_ | with_reducible refine bstep ?_ (by with_reducible assumption)))
            replace hs3 := hs3.below hcx
            clear hcx
            replace kt0 := cell_later hb (cell_al _ kt0)
            replace kt1 := cell_later hb (cell_al _ kt1)
            replace kt2 := cell_later hb (cell_al _ kt2)
            replace ku0 := cell_later hb (cell_al _ ku0)
            replace ku1 := cell_later hb (cell_al _ ku1)
            replace ku2 := cell_later hb (cell_al _ ku2)
            have kj0 : w5.cell? ⟨w4.heap.size, 0, none⟩ = some (.int .i64 s) := cell_later hb (by go_simp)
            have kj1 : w5.cell? ⟨w4.heap.size, 1, none⟩ = some (.int .i64 p) := cell_later hb (by go_simp)
            have kj2 : w5.cell? ⟨w4.heap.size, 2, none⟩ = some (.slice pp3 l.length cap3) := cell_later hb (by go_simp)
            replace zt : w.heap.size < w5.heap.size := World.block_lt_of_cell? _ _ kt0
            have zt_w5 := zt
            replace zu : w.heap.size + 1 < w5.heap.size := World.block_lt_of_cell? _ _ ku0
            have zu_w5 := zu
            have zj : w4.heap.size < w5.heap.size := World.block_lt_of_cell? _ _ kj0
            have zj_w5 := zj
            replace hb0 : Below w.heap.size w w5 := (by repeat (first | with_reducible exact Below.refl _ _ | with_reducible assumption | with_reducible refine Below.setCell ?_ (by first | omega | (simp <;> omega)) _ | with_reducible refine balloc ?_ _ | with_reducible refine Below.drew ?_ | with_reducible refine bstep ?_ (by with_reducible assumption)))
            have hs_w5 := hb.size; (try simp only [World.size_alloc, World.size_setCell] at hs_w5)
            clear hb
            go_wp2_with fail
            refine Calls.mono (HB _ (by repeat (first | with_reducible exact Below.refl _ _ | with_reducible assumption | with_reducible refine Below.setCell ?_ (by first | omega | (simp <;> omega)) _ | with_reducible refine balloc ?_ _ | with_reducible refine Below.drew ?_ | with_reducible refine bstep ?_ (by with_reducible assumption)))) ?_
            rintro e w6 ⟨rfl, hb⟩
            have hcx : Below w5.heap.size w5 w6 := (by repeat (first | with_reducible exact Below.refl _ _ | with_reducible assumption | with_reducible refine Below.setCell ?_ (by first | omega | (simp <;> omega)) _ | with_reducible refine balloc ?_ _ | with_reducible refine Below.drew ?_ | with_reducible refine bstep ?_ (by with_reducible assumption)))
            replace hs3 := hs3.below hcx
            clear hcx
            replace kt0 := cell_later hb (cell_al _ kt0)
            replace kt1 := cell_later hb (cell_al _ kt1)
            replace kt2 := cell_later hb (cell_al _ kt2)
            replace ku0 := cell_later hb (cell_al _ ku0)
            replace ku1 := cell_later hb (cell_al _ ku1)
            replace ku2 := cell_later hb (cell_al _ ku2)
            replace kj0 := cell_later hb (cell_al _ kj0)
            replace kj1 := cell_later hb (cell_al _ kj1)
            replace kj2 := cell_later hb (cell_al _ kj2)
            have ka0 : w6.cell? ⟨w5.heap.size, 0, none⟩ = some (.int .i64 a1) := cell_later hb (by go_simp)
            have ka1 : w6.cell? ⟨w5.heap.size, 1, none⟩ = some (.int .i64 a2) := cell_later hb (by go_simp)
            replace zt : w.heap.size < w6.heap.size := World.block_lt_of_cell? _ _ kt0
            have zt_w6 := zt
            replace zu : w.heap.size + 1 < w6.heap.size := World.block_lt_of_cell? _ _ ku0
            have zu_w6 := zu
            replace zj : w4.heap.size < w6.heap.size := World.block_lt_of_cell? _ _ kj0
            have zj_w6 := zj
            have za : w5.heap.size < w6.heap.size := World.block_lt_of_cell? _ _ ka0
            have za_w6 := za
            replace hb0 : Below w.heap.size w w6 := (by repeat (first | with_reducible exact Below.refl _ _ | with_reducible assumption | with_reducible refine Below.setCell ?_ (by first | omega | (simp <;> omega)) _ | with_reducible refine balloc ?_ _ | with_reducible refine Below.drew ?_ | with_reducible refine bstep ?_ (by with_reducible assumption)))
            have hs_w6 := hb.size; (try simp only [World.size_alloc, World.size_setCell] at hs_w6)
            clear hb
            go_wp2_with fail
            refine Calls.mono (HJ _ _ (hs3.below (by repeat (first | with_reducible exact Below.refl _ _ | with_reducible assumption | with_reducible refine Below.setCell ?_ (by first | omega | (simp <;> omega)) _ | with_reducible refine balloc ?_ _ | with_reducible refine Below.drew ?_ | with_reducible refine bstep ?_ (by with_reducible assumption))))) ?_
            rintro e w7 ⟨rfl, hb⟩
            have hcx : Below w6.heap.size w6 w7 := (by repeat (first | with_reducible exact Below.refl _ _ | with_reducible assumption | with_reducible refine Below.setCell ?_ (by first | omega | (simp <;> omega)) _ | with_reducible refine balloc ?_ _ | with_reducible refine Below.drew ?_ | with_reducible refine bstep ?_ (by with_reducible assumption)))
            replace hs3 := hs3.below hcx
            clear hcx
            replace kt0 := cell_later hb (cell_al _ kt0)
            replace kt1 := cell_later hb (cell_al _ kt1)
            replace kt2 := cell_later hb (cell_al _ kt2)
            replace ku0 := cell_later hb (cell_al _ ku0)
            replace ku1 := cell_later hb (cell_al _ ku1)
            replace ku2 := cell_later hb (cell_al _ ku2)
            replace kj0 := cell_later hb (cell_al _ kj0)
            replace kj1 := cell_later hb (cell_al _ kj1)
            replace kj2 := cell_later hb (cell_al _ kj2)
            replace ka0 := cell_later hb (cell_al _ ka0)
            replace ka1 := cell_later hb (cell_al _ ka1)
            have kb0 : w7.cell? ⟨w6.heap.size, 0, none⟩ = some (.int .i64 b1) := cell_later hb (by go_simp)
            have kb1 : w7.cell? ⟨w6.heap.size, 1, none⟩ = some (.int .i64 b2) := cell_later hb (by go_simp)
            replace zt : w.heap.size < w7.heap.size := World.block_lt_of_cell? _ _ kt0
            have zt_w7 := zt
            replace zu : w.heap.size + 1 < w7.heap.size := World.block_lt_of_cell? _ _ ku0
            have zu_w7 := zu
            replace zj : w4.heap.size < w7.heap.size := World.block_lt_of_cell? _ _ kj0
            have zj_w7 := zj
            replace za : w5.heap.size < w7.heap.size := World.block_lt_of_cell? _ _ ka0
            have za_w7 := za
            have zb : w6.heap.size < w7.heap.size := World.block_lt_of_cell? _ _ kb0
            have zb_w7 := zb
            replace hb0 : Below w.heap.size w w7 := (by repeat (first | with_reducible exact Below.refl _ _ | with_reducible assumption | with_reducible refine Below.setCell ?_ (by first | omega | (simp <;> omega)) _ | with_reducible refine balloc ?_ _ | with_reducible refine Below.drew ?_ | with_reducible refine bstep ?_ (by with_reducible assumption)))
            have hs_w7 := hb.size; (try simp only [World.size_alloc, World.size_setCell] at hs_w7)
            clear hb
            go_wp2
            go_ret
            exact ⟨rfl, (by repeat (first | with_reducible exact Below.refl _ _ | with_reducible assumption | with_reducible refine Below.setCell ?_ (by first | omega | (simp <;> omega)) _ | with_reducible refine balloc ?_ _ | with_reducible refine Below.drew ?_ | with_reducible refine bstep ?_ (by with_reducible assumption)))⟩


end Go.Proofs.Ytemogomligbgiaa.Ti
