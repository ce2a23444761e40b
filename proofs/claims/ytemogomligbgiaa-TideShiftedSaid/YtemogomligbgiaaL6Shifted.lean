/- L6Shifted: the law Shifted. -/
import Derived.Test.YtemogomligbgiaaTidSh
import Derived.Test.YtemogomligbgiaaRows
import Derived.WalkKit
import Derived.WalkSpells
import Derived.WalkLawsBesides
import Derived.Lib.Hide
import Derived.Deep.QuietTactic
import Derived.BigQuiet
import Derived.RegionTactic
import Derived.ChangeAlike
import Derived.BigRegion
import Derived.Deep.RegionHeld3
import Derived.Deep.RegionWith
import Derived.Outline
import Derived.IntWalk
import Derived.Deep.DeepCutAuto
import Derived.LoopTactic
namespace Go.Proofs.Ytemogomligbgiaa.Ti
open Go.RowKit Sp
set_option linter.unusedSimpArgs false
set_option linter.unusedVariables false

set_option maxRecDepth 100000 in
set_option maxHeartbeats 16000000 in
theorem shifted_w (w : World) (s p : Int) (u : Value) (l : List Pr) (hsp : Spans w u l) (y1 y2 need f t : Int) : Calls Try.prog 9 #[.agg #[(.int .i64 s), (.int .i64 p), u], .agg #[(.int .i64 y1), (.int .i64 y2)], (.int .i64 need), (.int .i64 f), (.int .i64 t)] w (Ret w (.bool true)) := by
  have F1 := fun W h => few_c s p u l W (hsp.below h)
  have SH := fun W h => Shift_c s p u l y1 y2 W (hsp.below h)
  have HA := fun W h => Height_c s p u l f t W (hsp.below h)
  have WA := fun W h => Windows_c s p u l (need - y1) W (hsp.below h)
  obtain ⟨⟨pp, cap, rfl, hn, hcap, hp⟩, hl⟩ := hsp
  clear hn hp
  generalize fewB p l = few at *
  cases h0 : few
  · subst h0
    clear SH HA WA
    go_enter Try.func9, Try.ntmps9
    go_wp2_with fail
    refine Calls.mono (head_c _) ?_
    rintro e w1 ⟨rfl, hb⟩
    have kt0 : w1.cell? ⟨w.heap.size, 0, none⟩ = some (.int .i64 s) := cell_later hb (by go_simp)
    have kt1 : w1.cell? ⟨w.heap.size, 1, none⟩ = some (.int .i64 p) := cell_later hb (by go_simp)
    have kt2 : w1.cell? ⟨w.heap.size, 2, none⟩ = some (.slice pp l.length cap) := cell_later hb (by go_simp)
    have ky0 : w1.cell? ⟨w.heap.size + 1, 0, none⟩ = some (.int .i64 y1) := cell_later hb (by go_simp)
    have ky1 : w1.cell? ⟨w.heap.size + 1, 1, none⟩ = some (.int .i64 y2) := cell_later hb (by go_simp)
    have zt : w.heap.size < w1.heap.size := World.block_lt_of_cell? _ _ kt0
    have zt_w1 := zt
    have zy : w.heap.size + 1 < w1.heap.size := World.block_lt_of_cell? _ _ ky0
    have zy_w1 := zy
    have hb0 : Below w.heap.size w w1 := (by repeat (first | with_reducible exact Below.refl _ _ | with_reducible assumption | with_reducible refine Below.setCell ?_ (by first | omega | (simp <;> omega)) _ | with_reducible refine balloc ?_ _ | with_reducible refine Below.drew ?_ | with_reducible refine bstep ?_ (by with_reducible assumption)))
    have hs_w1 := hb.size; (try simp only [World.size_alloc, World.size_setCell] at hs_w1)
    clear hb
    go_wp2_with fail
    refine Calls.mono (F1 _ (by repeat (first | with_reducible exact Below.refl _ _ | with_reducible assumption | with_reducible refine Below.setCell ?_ (by first | omega | (simp <;> omega)) _ | with_reducible refine balloc ?_ _ | with_reducible refine Below.drew ?_ | with_reducible refine bstep ?_ (by with_reducible assumption)))) ?_
    rintro e w2 ⟨rfl, hb⟩
    replace kt0 := cell_later hb kt0
    replace kt1 := cell_later hb kt1
    replace kt2 := cell_later hb kt2
    replace ky0 := cell_later hb ky0
    replace ky1 := cell_later hb ky1
    replace zt : w.heap.size < w2.heap.size := World.block_lt_of_cell? _ _ kt0
    have zt_w2 := zt
    replace zy : w.heap.size + 1 < w2.heap.size := World.block_lt_of_cell? _ _ ky0
    have zy_w2 := zy
    replace hb0 : Below w.heap.size w w2 := (by repeat (first | with_reducible exact Below.refl _ _ | with_reducible assumption | with_reducible refine Below.setCell ?_ (by first | omega | (simp <;> omega)) _ | with_reducible refine balloc ?_ _ | with_reducible refine Below.drew ?_ | with_reducible refine bstep ?_ (by with_reducible assumption)))
    have hs_w2 : w1.heap.size ≤ w2.heap.size := hb.size
    clear hb
    go_wp2
    go_ret
    exact ⟨rfl, (by repeat (first | with_reducible exact Below.refl _ _ | with_reducible assumption | with_reducible refine Below.setCell ?_ (by first | omega | (simp <;> omega)) _ | with_reducible refine balloc ?_ _ | with_reducible refine Below.drew ?_ | with_reducible refine bstep ?_ (by with_reducible assumption)))⟩
  · cases h1 : ndB need
    · subst h0
      clear SH HA WA
      go_enter Try.func9, Try.ntmps9
      go_wp2_with fail
      refine Calls.mono (head_c _) ?_
      rintro e w1 ⟨rfl, hb⟩
      have kt0 : w1.cell? ⟨w.heap.size, 0, none⟩ = some (.int .i64 s) := cell_later hb (by go_simp)
      have kt1 : w1.cell? ⟨w.heap.size, 1, none⟩ = some (.int .i64 p) := cell_later hb (by go_simp)
      have kt2 : w1.cell? ⟨w.heap.size, 2, none⟩ = some (.slice pp l.length cap) := cell_later hb (by go_simp)
      have ky0 : w1.cell? ⟨w.heap.size + 1, 0, none⟩ = some (.int .i64 y1) := cell_later hb (by go_simp)
      have ky1 : w1.cell? ⟨w.heap.size + 1, 1, none⟩ = some (.int .i64 y2) := cell_later hb (by go_simp)
      have zt : w.heap.size < w1.heap.size := World.block_lt_of_cell? _ _ kt0
      have zt_w1 := zt
      have zy : w.heap.size + 1 < w1.heap.size := World.block_lt_of_cell? _ _ ky0
      have zy_w1 := zy
      have hb0 : Below w.heap.size w w1 := (by repeat (first | with_reducible exact Below.refl _ _ | with_reducible assumption | with_reducible refine Below.setCell ?_ (by first | omega | (simp <;> omega)) _ | with_reducible refine balloc ?_ _ | with_reducible refine Below.drew ?_ | with_reducible refine bstep ?_ (by with_reducible assumption)))
      have hs_w1 := hb.size; (try simp only [World.size_alloc, World.size_setCell] at hs_w1)
      clear hb
      go_wp2_with fail
      refine Calls.mono (F1 _ (by repeat (first | with_reducible exact Below.refl _ _ | with_reducible assumption | with_reducible refine Below.setCell ?_ (by first | omega | (simp <;> omega)) _ | with_reducible refine balloc ?_ _ | with_reducible refine Below.drew ?_ | with_reducible refine bstep ?_ (by with_reducible assumption)))) ?_
      rintro e w2 ⟨rfl, hb⟩
      replace kt0 := cell_later hb kt0
      replace kt1 := cell_later hb kt1
      replace kt2 := cell_later hb kt2
      replace ky0 := cell_later hb ky0
      replace ky1 := cell_later hb ky1
      replace zt : w.heap.size < w2.heap.size := World.block_lt_of_cell? _ _ kt0
      have zt_w2 := zt
      replace zy : w.heap.size + 1 < w2.heap.size := World.block_lt_of_cell? _ _ ky0
      have zy_w2 := zy
      replace hb0 : Below w.heap.size w w2 := (by repeat (first | with_reducible exact Below.refl _ _ | with_reducible assumption | with_reducible refine Below.setCell ?_ (by first | omega | (simp <;> omega)) _ | with_reducible refine balloc ?_ _ | with_reducible refine Below.drew ?_ | with_reducible refine bstep ?_ (by with_reducible assumption)))
      have hs_w2 : w1.heap.size ≤ w2.heap.size := hb.size
      clear hb
      go_wp2_with fail
      refine Calls.mono (rneed_c need _) ?_
      rintro e wx ⟨rfl, rfl⟩
      rw [h1]
      go_wp2
      go_ret
      exact ⟨rfl, (by repeat (first | with_reducible exact Below.refl _ _ | with_reducible assumption | with_reducible refine Below.setCell ?_ (by first | omega | (simp <;> omega)) _ | with_reducible refine balloc ?_ _ | with_reducible refine Below.drew ?_ | with_reducible refine bstep ?_ (by with_reducible assumption)))⟩
    · cases h2 : sOk s p l (y1, y2)
      · subst h0
        rw [h2] at SH
        simp only [Bool.false_and, Bool.true_and, erv, cond] at SH
        clear HA WA
        go_enter Try.func9, Try.ntmps9
        go_wp2_with fail
        refine Calls.mono (head_c _) ?_
        rintro e w1 ⟨rfl, hb⟩
        have kt0 : w1.cell? ⟨w.heap.size, 0, none⟩ = some (.int .i64 s) := cell_later hb (by go_simp)
        have kt1 : w1.cell? ⟨w.heap.size, 1, none⟩ = some (.int .i64 p) := cell_later hb (by go_simp)
        have kt2 : w1.cell? ⟨w.heap.size, 2, none⟩ = some (.slice pp l.length cap) := cell_later hb (by go_simp)
        have ky0 : w1.cell? ⟨w.heap.size + 1, 0, none⟩ = some (.int .i64 y1) := cell_later hb (by go_simp)
        have ky1 : w1.cell? ⟨w.heap.size + 1, 1, none⟩ = some (.int .i64 y2) := cell_later hb (by go_simp)
        have zt : w.heap.size < w1.heap.size := World.block_lt_of_cell? _ _ kt0
        have zt_w1 := zt
        have zy : w.heap.size + 1 < w1.heap.size := World.block_lt_of_cell? _ _ ky0
        have zy_w1 := zy
        have hb0 : Below w.heap.size w w1 := (by repeat (first | with_reducible exact Below.refl _ _ | with_reducible assumption | with_reducible refine Below.setCell ?_ (by first | omega | (simp <;> omega)) _ | with_reducible refine balloc ?_ _ | with_reducible refine Below.drew ?_ | with_reducible refine bstep ?_ (by with_reducible assumption)))
        have hs_w1 := hb.size; (try simp only [World.size_alloc, World.size_setCell] at hs_w1)
        clear hb
        go_wp2_with fail
        refine Calls.mono (F1 _ (by repeat (first | with_reducible exact Below.refl _ _ | with_reducible assumption | with_reducible refine Below.setCell ?_ (by first | omega | (simp <;> omega)) _ | with_reducible refine balloc ?_ _ | with_reducible refine Below.drew ?_ | with_reducible refine bstep ?_ (by with_reducible assumption)))) ?_
        rintro e w2 ⟨rfl, hb⟩
        replace kt0 := cell_later hb kt0
        replace kt1 := cell_later hb kt1
        replace kt2 := cell_later hb kt2
        replace ky0 := cell_later hb ky0
        replace ky1 := cell_later hb ky1
        replace zt : w.heap.size < w2.heap.size := World.block_lt_of_cell? _ _ kt0
        have zt_w2 := zt
        replace zy : w.heap.size + 1 < w2.heap.size := World.block_lt_of_cell? _ _ ky0
        have zy_w2 := zy
        replace hb0 : Below w.heap.size w w2 := (by repeat (first | with_reducible exact Below.refl _ _ | with_reducible assumption | with_reducible refine Below.setCell ?_ (by first | omega | (simp <;> omega)) _ | with_reducible refine balloc ?_ _ | with_reducible refine Below.drew ?_ | with_reducible refine bstep ?_ (by with_reducible assumption)))
        have hs_w2 : w1.heap.size ≤ w2.heap.size := hb.size
        clear hb
        go_wp2_with fail
        refine Calls.mono (rneed_c need _) ?_
        rintro e wx ⟨rfl, rfl⟩
        rw [h1]
        go_wp2_with fail
        refine Calls.mono (SH _ (by repeat (first | with_reducible exact Below.refl _ _ | with_reducible assumption | with_reducible refine Below.setCell ?_ (by first | omega | (simp <;> omega)) _ | with_reducible refine balloc ?_ _ | with_reducible refine Below.drew ?_ | with_reducible refine bstep ?_ (by with_reducible assumption)))) ?_
        rintro e w3 ⟨v2, rfl, hs2, hfr, hb⟩
        replace kt0 := cell_later hb kt0
        replace kt1 := cell_later hb kt1
        replace kt2 := cell_later hb kt2
        replace ky0 := cell_later hb ky0
        replace ky1 := cell_later hb ky1
        replace zt : w.heap.size < w3.heap.size := World.block_lt_of_cell? _ _ kt0
        have zt_w3 := zt
        replace zy : w.heap.size + 1 < w3.heap.size := World.block_lt_of_cell? _ _ ky0
        have zy_w3 := zy
        replace hb0 : Below w.heap.size w w3 := (by repeat (first | with_reducible exact Below.refl _ _ | with_reducible assumption | with_reducible refine Below.setCell ?_ (by first | omega | (simp <;> omega)) _ | with_reducible refine balloc ?_ _ | with_reducible refine Below.drew ?_ | with_reducible refine bstep ?_ (by with_reducible assumption)))
        have hs_w3 : w2.heap.size ≤ w3.heap.size := hb.size
        clear hb
        obtain ⟨⟨pp2, cap2, rfl, _, _, _⟩, _⟩ := id hs2
        go_wp2
        go_ret
        exact ⟨rfl, (by repeat (first | with_reducible exact Below.refl _ _ | with_reducible assumption | with_reducible refine Below.setCell ?_ (by first | omega | (simp <;> omega)) _ | with_reducible refine balloc ?_ _ | with_reducible refine Below.drew ?_ | with_reducible refine bstep ?_ (by with_reducible assumption)))⟩
      · cases h3 : sG l (y1, y2)
        · subst h0
          rw [h2] at SH
          rw [h3] at SH
          simp only [Bool.false_and, Bool.true_and, erv, cond] at SH
          clear HA WA
          go_enter Try.func9, Try.ntmps9
          go_wp2_with fail
          refine Calls.mono (head_c _) ?_
          rintro e w1 ⟨rfl, hb⟩
          have kt0 : w1.cell? ⟨w.heap.size, 0, none⟩ = some (.int .i64 s) := cell_later hb (by go_simp)
          have kt1 : w1.cell? ⟨w.heap.size, 1, none⟩ = some (.int .i64 p) := cell_later hb (by go_simp)
          have kt2 : w1.cell? ⟨w.heap.size, 2, none⟩ = some (.slice pp l.length cap) := cell_later hb (by go_simp)
          have ky0 : w1.cell? ⟨w.heap.size + 1, 0, none⟩ = some (.int .i64 y1) := cell_later hb (by go_simp)
          have ky1 : w1.cell? ⟨w.heap.size + 1, 1, none⟩ = some (.int .i64 y2) := cell_later hb (by go_simp)
          have zt : w.heap.size < w1.heap.size := World.block_lt_of_cell? _ _ kt0
          have zt_w1 := zt
          have zy : w.heap.size + 1 < w1.heap.size := World.block_lt_of_cell? _ _ ky0
          have zy_w1 := zy
          have hb0 : Below w.heap.size w w1 := (by repeat (first | with_reducible exact Below.refl _ _ | with_reducible assumption | with_reducible refine Below.setCell ?_ (by first | omega | (simp <;> omega)) _ | with_reducible refine balloc ?_ _ | with_reducible refine Below.drew ?_ | with_reducible refine bstep ?_ (by with_reducible assumption)))
          have hs_w1 := hb.size; (try simp only [World.size_alloc, World.size_setCell] at hs_w1)
          clear hb
          go_wp2_with fail
          refine Calls.mono (F1 _ (by repeat (first | with_reducible exact Below.refl _ _ | with_reducible assumption | with_reducible refine Below.setCell ?_ (by first | omega | (simp <;> omega)) _ | with_reducible refine balloc ?_ _ | with_reducible refine Below.drew ?_ | with_reducible refine bstep ?_ (by with_reducible assumption)))) ?_
          rintro e w2 ⟨rfl, hb⟩
          replace kt0 := cell_later hb kt0
          replace kt1 := cell_later hb kt1
          replace kt2 := cell_later hb kt2
          replace ky0 := cell_later hb ky0
          replace ky1 := cell_later hb ky1
          replace zt : w.heap.size < w2.heap.size := World.block_lt_of_cell? _ _ kt0
          have zt_w2 := zt
          replace zy : w.heap.size + 1 < w2.heap.size := World.block_lt_of_cell? _ _ ky0
          have zy_w2 := zy
          replace hb0 : Below w.heap.size w w2 := (by repeat (first | with_reducible exact Below.refl _ _ | with_reducible assumption | with_reducible refine Below.setCell ?_ (by first | omega | (simp <;> omega)) _ | with_reducible refine balloc ?_ _ | with_reducible refine Below.drew ?_ | with_reducible refine bstep ?_ (by with_reducible assumption)))
          have hs_w2 : w1.heap.size ≤ w2.heap.size := hb.size
          clear hb
          go_wp2_with fail
          refine Calls.mono (rneed_c need _) ?_
          rintro e wx ⟨rfl, rfl⟩
          rw [h1]
          go_wp2_with fail
          refine Calls.mono (SH _ (by repeat (first | with_reducible exact Below.refl _ _ | with_reducible assumption | with_reducible refine Below.setCell ?_ (by first | omega | (simp <;> omega)) _ | with_reducible refine balloc ?_ _ | with_reducible refine Below.drew ?_ | with_reducible refine bstep ?_ (by with_reducible assumption)))) ?_
          rintro e w3 ⟨v2, rfl, hs2, hfr, hb⟩
          replace kt0 := cell_later hb kt0
          replace kt1 := cell_later hb kt1
          replace kt2 := cell_later hb kt2
          replace ky0 := cell_later hb ky0
          replace ky1 := cell_later hb ky1
          replace zt : w.heap.size < w3.heap.size := World.block_lt_of_cell? _ _ kt0
          have zt_w3 := zt
          replace zy : w.heap.size + 1 < w3.heap.size := World.block_lt_of_cell? _ _ ky0
          have zy_w3 := zy
          replace hb0 : Below w.heap.size w w3 := (by repeat (first | with_reducible exact Below.refl _ _ | with_reducible assumption | with_reducible refine Below.setCell ?_ (by first | omega | (simp <;> omega)) _ | with_reducible refine balloc ?_ _ | with_reducible refine Below.drew ?_ | with_reducible refine bstep ?_ (by with_reducible assumption)))
          have hs_w3 : w2.heap.size ≤ w3.heap.size := hb.size
          clear hb
          obtain ⟨⟨pp2, cap2, rfl, _, _, _⟩, _⟩ := id hs2
          go_wp2
          go_ret
          exact ⟨rfl, (by repeat (first | with_reducible exact Below.refl _ _ | with_reducible assumption | with_reducible refine Below.setCell ?_ (by first | omega | (simp <;> omega)) _ | with_reducible refine balloc ?_ _ | with_reducible refine Below.drew ?_ | with_reducible refine bstep ?_ (by with_reducible assumption)))⟩
        · cases h4 : ndB (need - y1)
          · subst h0
            rw [h2] at SH
            rw [h3] at SH
            simp only [Bool.true_and, erv, cond] at SH
            have hok := h2
            simp only [sOk, Bool.and_eq_true] at hok
            obtain ⟨hv, hy⟩ := hok
            have yb := vE_iff.1 hy
            obtain ⟨n1, n2⟩ := btB_iff.1 h1
            (try dsimp only at yb hy)
            have SH2 : ∀ W, Below w.heap.size w W → Calls Try.prog 27 #[.agg #[(.int .i64 s), (.int .i64 p), .slice pp l.length cap], .agg #[(.int .i64 y1), (.int .i64 y2)]] W (fun e W' => ∃ v', e = .returned (.tuple #[.agg #[(.int .i64 s), (.int .i64 p), v'], (.int .i64 0)]) ∧ Spans W' v' (sL l (y1, y2)) ∧ Fresh W.heap.size v' ∧ Below W.heap.size W W') := SH
            clear SH
            clear HA WA
            go_enter Try.func9, Try.ntmps9
            go_wp2_with fail
            refine Calls.mono (head_c _) ?_
            rintro e w1 ⟨rfl, hb⟩
            have kt0 : w1.cell? ⟨w.heap.size, 0, none⟩ = some (.int .i64 s) := cell_later hb (by go_simp)
            have kt1 : w1.cell? ⟨w.heap.size, 1, none⟩ = some (.int .i64 p) := cell_later hb (by go_simp)
            have kt2 : w1.cell? ⟨w.heap.size, 2, none⟩ = some (.slice pp l.length cap) := cell_later hb (by go_simp)
            have ky0 : w1.cell? ⟨w.heap.size + 1, 0, none⟩ = some (.int .i64 y1) := cell_later hb (by go_simp)
            have ky1 : w1.cell? ⟨w.heap.size + 1, 1, none⟩ = some (.int .i64 y2) := cell_later hb (by go_simp)
            have zt : w.heap.size < w1.heap.size := World.block_lt_of_cell? _ _ kt0
            have zt_w1 := zt
            have zy : w.heap.size + 1 < w1.heap.size := World.block_lt_of_cell? _ _ ky0
            have zy_w1 := zy
            have hb0 : Below w.heap.size w w1 := (by repeat (first | with_reducible exact Below.refl _ _ | with_reducible assumption | with_reducible refine Below.setCell ?_ (by first | omega | (simp <;> omega)) _ | with_reducible refine balloc ?_ _ | with_reducible refine Below.drew ?_ | with_reducible refine bstep ?_ (by with_reducible assumption)))
            have hs_w1 := hb.size; (try simp only [World.size_alloc, World.size_setCell] at hs_w1)
            clear hb
            go_wp2_with fail
            refine Calls.mono (F1 _ (by repeat (first | with_reducible exact Below.refl _ _ | with_reducible assumption | with_reducible refine Below.setCell ?_ (by first | omega | (simp <;> omega)) _ | with_reducible refine balloc ?_ _ | with_reducible refine Below.drew ?_ | with_reducible refine bstep ?_ (by with_reducible assumption)))) ?_
            rintro e w2 ⟨rfl, hb⟩
            replace kt0 := cell_later hb kt0
            replace kt1 := cell_later hb kt1
            replace kt2 := cell_later hb kt2
            replace ky0 := cell_later hb ky0
            replace ky1 := cell_later hb ky1
            replace zt : w.heap.size < w2.heap.size := World.block_lt_of_cell? _ _ kt0
            have zt_w2 := zt
            replace zy : w.heap.size + 1 < w2.heap.size := World.block_lt_of_cell? _ _ ky0
            have zy_w2 := zy
            replace hb0 : Below w.heap.size w w2 := (by repeat (first | with_reducible exact Below.refl _ _ | with_reducible assumption | with_reducible refine Below.setCell ?_ (by first | omega | (simp <;> omega)) _ | with_reducible refine balloc ?_ _ | with_reducible refine Below.drew ?_ | with_reducible refine bstep ?_ (by with_reducible assumption)))
            have hs_w2 : w1.heap.size ≤ w2.heap.size := hb.size
            clear hb
            go_wp2_with fail
            refine Calls.mono (rneed_c need _) ?_
            rintro e wx ⟨rfl, rfl⟩
            rw [h1]
            go_wp2_with fail
            refine Calls.mono (SH2 _ (by repeat (first | with_reducible exact Below.refl _ _ | with_reducible assumption | with_reducible refine Below.setCell ?_ (by first | omega | (simp <;> omega)) _ | with_reducible refine balloc ?_ _ | with_reducible refine Below.drew ?_ | with_reducible refine bstep ?_ (by with_reducible assumption)))) ?_
            rintro e w3 ⟨v2, rfl, hs2, hfr, hb⟩
            replace kt0 := cell_later hb kt0
            replace kt1 := cell_later hb kt1
            replace kt2 := cell_later hb kt2
            replace ky0 := cell_later hb ky0
            replace ky1 := cell_later hb ky1
            replace zt : w.heap.size < w3.heap.size := World.block_lt_of_cell? _ _ kt0
            have zt_w3 := zt
            replace zy : w.heap.size + 1 < w3.heap.size := World.block_lt_of_cell? _ _ ky0
            have zy_w3 := zy
            replace hb0 : Below w.heap.size w w3 := (by repeat (first | with_reducible exact Below.refl _ _ | with_reducible assumption | with_reducible refine Below.setCell ?_ (by first | omega | (simp <;> omega)) _ | with_reducible refine balloc ?_ _ | with_reducible refine Below.drew ?_ | with_reducible refine bstep ?_ (by with_reducible assumption)))
            have hs_w3 : w2.heap.size ≤ w3.heap.size := hb.size
            clear hb
            obtain ⟨⟨pp2, cap2, rfl, _, _, _⟩, _⟩ := id hs2
            (try rw [sL_len])
            go_wp2_with fail
            refine Calls.mono (rneed_c (need - y1) _) ?_
            rintro e wx ⟨rfl, rfl⟩
            rw [h4]
            go_wp2
            go_ret
            exact ⟨rfl, (by repeat (first | with_reducible exact Below.refl _ _ | with_reducible assumption | with_reducible refine Below.setCell ?_ (by first | omega | (simp <;> omega)) _ | with_reducible refine balloc ?_ _ | with_reducible refine Below.drew ?_ | with_reducible refine bstep ?_ (by with_reducible assumption)))⟩
          · subst h0
            rw [h2] at SH
            rw [h3] at SH
            simp only [Bool.true_and, erv, cond] at SH
            have hok := h2
            simp only [sOk, Bool.and_eq_true] at hok
            obtain ⟨hv, hy⟩ := hok
            have yb := vE_iff.1 hy
            obtain ⟨n1, n2⟩ := btB_iff.1 h1
            (try dsimp only at yb hy)
            have SH2 : ∀ W, Below w.heap.size w W → Calls Try.prog 27 #[.agg #[(.int .i64 s), (.int .i64 p), .slice pp l.length cap], .agg #[(.int .i64 y1), (.int .i64 y2)]] W (fun e W' => ∃ v', e = .returned (.tuple #[.agg #[(.int .i64 s), (.int .i64 p), v'], (.int .i64 0)]) ∧ Spans W' v' (sL l (y1, y2)) ∧ Fresh W.heap.size v' ∧ Below W.heap.size W W') := SH
            clear SH
            obtain ⟨q1, q2⟩ := hE_sh hv h3 f t
            have hwe : wE s p l (need - y1) = 0 ∧ wL s p l (need - y1) = wiT s p l (need - y1) := by unfold wE wL wOk; rw [hv, h4]; exact ⟨rfl, rfl⟩
            have hv2 := va_sh hv h3
            have hwe2 : wE s p (sL l (y1, y2)) need = 0 ∧ wL s p (sL l (y1, y2)) need = wiT s p l (need - y1) := by unfold wE wL wOk; rw [hv2, h1]; exact ⟨rfl, wi_sh need (y1, y2)⟩
            have HB := fun v2 W (h : Spans W v2 (sL l (y1, y2))) => Height_c s p v2 (sL l (y1, y2)) f t W h
            have WB := fun v2 W (h : Spans W v2 (sL l (y1, y2))) => Windows_c s p v2 (sL l (y1, y2)) need W h
            unfold WinP at WA WB
            rw [hwe.1, hwe.2] at WA
            rw [hwe2.1, hwe2.2] at WB
            rw [q1] at HB
            generalize wiT s p l (need - y1) = ws at *
            have hll := sL_len l (y1, y2)
            generalize sL l (y1, y2) = l2 at *
            generalize hV s p l2 f t = b at *
            generalize hV s p l f t = a at *
            generalize hE s p l f t = e1 at *
            obtain ⟨a1, a2⟩ := a
            obtain ⟨b1, b2⟩ := b
            dsimp only at HA HB q2
            have HLL := Lib.hid hll
            clear hwe hwe2 q1 hv2 hv h2 h3 hll
            by_cases h5 : e1 = 0
            · subst h5
              obtain ⟨hb1, ha1, ha2⟩ := q2 rfl
              simp only [pl, Prod.mk.injEq] at hb1 ha2
              obtain ⟨rfl, rfl⟩ := hb1
              have va : vE 1000000000000 a1 a2 = true := by rw [vE_iff]; have := okH_iff.1 ha1; simp only at this; omega
              have vc : vE 1000000000000 (a1 + y1) (a2 + y2) = true := by rw [vE_iff]; have := okH_iff.1 ha2; simp only at this; omega
              have AD : ∀ w, Calls Try.prog 35 #[.agg #[(.int .i64 a1), (.int .i64 a2)], .agg #[(.int .i64 y1), (.int .i64 y2)]] w (Ret w (.tuple #[.agg #[(.int .i64 (a1 + y1)), (.int .i64 (a2 + y2))], (.int .i64 0)])) := fun w => by have := Sp.Add_c a1 a2 y1 y2 w; simpa [vAdd, rAdd, va, hy, vc, selI, erv] using this
              clear q2 va vc ha1 ha2 hy
              generalize a1 + y1 = c1 at *
              generalize a2 + y2 = c2 at *
              go_enter Try.func9, Try.ntmps9
              go_wp2_with fail
              refine Calls.mono (head_c _) ?_
              rintro e w1 ⟨rfl, hb⟩
              have kt0 : w1.cell? ⟨w.heap.size, 0, none⟩ = some (.int .i64 s) := cell_later hb (by go_simp)
              have kt1 : w1.cell? ⟨w.heap.size, 1, none⟩ = some (.int .i64 p) := cell_later hb (by go_simp)
              have kt2 : w1.cell? ⟨w.heap.size, 2, none⟩ = some (.slice pp l.length cap) := cell_later hb (by go_simp)
              have ky0 : w1.cell? ⟨w.heap.size + 1, 0, none⟩ = some (.int .i64 y1) := cell_later hb (by go_simp)
              have ky1 : w1.cell? ⟨w.heap.size + 1, 1, none⟩ = some (.int .i64 y2) := cell_later hb (by go_simp)
              have zt : w.heap.size < w1.heap.size := World.block_lt_of_cell? _ _ kt0
              have zt_w1 := zt
              have zy : w.heap.size + 1 < w1.heap.size := World.block_lt_of_cell? _ _ ky0
              have zy_w1 := zy
              have hb0 : Below w.heap.size w w1 := (by repeat (first | with_reducible exact Below.refl _ _ | with_reducible assumption | with_reducible refine Below.setCell ?_ (by first | omega | (simp <;> omega)) _ | with_reducible refine balloc ?_ _ | with_reducible refine Below.drew ?_ | with_reducible refine bstep ?_ (by with_reducible assumption)))
              have hs_w1 := hb.size; (try simp only [World.size_alloc, World.size_setCell] at hs_w1)
              clear hb
              go_wp2_with fail
              refine Calls.mono (F1 _ (by repeat (first | with_reducible exact Below.refl _ _ | with_reducible assumption | with_reducible refine Below.setCell ?_ (by first | omega | (simp <;> omega)) _ | with_reducible refine balloc ?_ _ | with_reducible refine Below.drew ?_ | with_reducible refine bstep ?_ (by with_reducible assumption)))) ?_
              rintro e w2 ⟨rfl, hb⟩
              replace kt0 := cell_later hb kt0
              replace kt1 := cell_later hb kt1
              replace kt2 := cell_later hb kt2
              replace ky0 := cell_later hb ky0
              replace ky1 := cell_later hb ky1
              replace zt : w.heap.size < w2.heap.size := World.block_lt_of_cell? _ _ kt0
              have zt_w2 := zt
              replace zy : w.heap.size + 1 < w2.heap.size := World.block_lt_of_cell? _ _ ky0
              have zy_w2 := zy
              replace hb0 : Below w.heap.size w w2 := (by repeat (first | with_reducible exact Below.refl _ _ | with_reducible assumption | with_reducible refine Below.setCell ?_ (by first | omega | (simp <;> omega)) _ | with_reducible refine balloc ?_ _ | with_reducible refine Below.drew ?_ | with_reducible refine bstep ?_ (by with_reducible assumption)))
              have hs_w2 : w1.heap.size ≤ w2.heap.size := hb.size
              clear hb
              go_wp2_with fail
              refine Calls.mono (rneed_c need _) ?_
              rintro e wx ⟨rfl, rfl⟩
              rw [h1]
              go_wp2_with fail
              refine Calls.mono (SH2 _ (by repeat (first | with_reducible exact Below.refl _ _ | with_reducible assumption | with_reducible refine Below.setCell ?_ (by first | omega | (simp <;> omega)) _ | with_reducible refine balloc ?_ _ | with_reducible refine Below.drew ?_ | with_reducible refine bstep ?_ (by with_reducible assumption)))) ?_
              rintro e w3 ⟨v2, rfl, hs2, hfr, hb⟩
              replace kt0 := cell_later hb kt0
              replace kt1 := cell_later hb kt1
              replace kt2 := cell_later hb kt2
              replace ky0 := cell_later hb ky0
              replace ky1 := cell_later hb ky1
              replace zt : w.heap.size < w3.heap.size := World.block_lt_of_cell? _ _ kt0
              have zt_w3 := zt
              replace zy : w.heap.size + 1 < w3.heap.size := World.block_lt_of_cell? _ _ ky0
              have zy_w3 := zy
              replace hb0 : Below w.heap.size w w3 := (by repeat (first | with_reducible exact Below.refl _ _ | with_reducible assumption | with_reducible refine Below.setCell ?_ (by first | omega | (simp <;> omega)) _ | with_reducible refine balloc ?_ _ | with_reducible refine Below.drew ?_ | with_reducible refine bstep ?_ (by with_reducible assumption)))
              have hs_w3 : w2.heap.size ≤ w3.heap.size := hb.size
              clear hb
              obtain ⟨⟨pp2, cap2, rfl, _, _, _⟩, _⟩ := id hs2
              rw [HLL.out] at hs2 ⊢
              go_wp2_with fail
              refine Calls.mono (rneed_c (need - y1) _) ?_
              rintro e wx ⟨rfl, rfl⟩
              rw [h4]
              go_wp2_with fail
              refine Calls.mono (HA _ (by repeat (first | with_reducible exact Below.refl _ _ | with_reducible assumption | with_reducible refine Below.setCell ?_ (by first | omega | (simp <;> omega)) _ | with_reducible refine balloc ?_ _ | with_reducible refine Below.drew ?_ | with_reducible refine bstep ?_ (by with_reducible assumption)))) ?_
              rintro e w4 ⟨rfl, hb⟩
              have hcx : Below w3.heap.size w3 w4 := (by repeat (first | with_reducible exact Below.refl _ _ | with_reducible assumption | with_reducible refine Below.setCell ?_ (by first | omega | (simp <;> omega)) _ | with_reducible refine balloc ?_ _ | with_reducible refine Below.drew ?_ | with_reducible refine bstep ?_ (by with_reducible assumption)))
              replace hs2 := hs2.below hcx
              clear hcx
              replace kt0 := cell_later hb (cell_al _ kt0)
              replace kt1 := cell_later hb (cell_al _ kt1)
              replace kt2 := cell_later hb (cell_al _ kt2)
              replace ky0 := cell_later hb (cell_al _ ky0)
              replace ky1 := cell_later hb (cell_al _ ky1)
              have ku0 : w4.cell? ⟨w3.heap.size, 0, none⟩ = some (.int .i64 s) := cell_later hb (by go_simp)
              have ku1 : w4.cell? ⟨w3.heap.size, 1, none⟩ = some (.int .i64 p) := cell_later hb (by go_simp)
              have ku2 : w4.cell? ⟨w3.heap.size, 2, none⟩ = some (.slice pp2 l.length cap2) := cell_later hb (by go_simp)
              replace zt : w.heap.size < w4.heap.size := World.block_lt_of_cell? _ _ kt0
              have zt_w4 := zt
              replace zy : w.heap.size + 1 < w4.heap.size := World.block_lt_of_cell? _ _ ky0
              have zy_w4 := zy
              have zu : w3.heap.size < w4.heap.size := World.block_lt_of_cell? _ _ ku0
              have zu_w4 := zu
              replace hb0 : Below w.heap.size w w4 := (by repeat (first | with_reducible exact Below.refl _ _ | with_reducible assumption | with_reducible refine Below.setCell ?_ (by first | omega | (simp <;> omega)) _ | with_reducible refine balloc ?_ _ | with_reducible refine Below.drew ?_ | with_reducible refine bstep ?_ (by with_reducible assumption)))
              have hs_w4 := hb.size; (try simp only [World.size_alloc, World.size_setCell] at hs_w4)
              clear hb
              go_wp2_with fail
              refine Calls.mono (HB _ _ (hs2.below (by repeat (first | with_reducible exact Below.refl _ _ | with_reducible assumption | with_reducible refine Below.setCell ?_ (by first | omega | (simp <;> omega)) _ | with_reducible refine balloc ?_ _ | with_reducible refine Below.drew ?_ | with_reducible refine bstep ?_ (by with_reducible assumption))))) ?_
              rintro e w5 ⟨rfl, hb⟩
              have hcx : Below w4.heap.size w4 w5 := (by repeat (first | with_reducible exact Below.refl _ _ | with_reducible assumption | with_reducible refine Below.setCell ?_ (by first | omega | (simp <;> omega)) _ | with_reducible refine balloc ?_ _ | with_reducible refine Below.drew ?_ | with_reducible refine bstep ?_ (by with_reducible assumption)))
              replace hs2 := hs2.below hcx
              clear hcx
              replace kt0 := cell_later hb (cell_al _ kt0)
              replace kt1 := cell_later hb (cell_al _ kt1)
              replace kt2 := cell_later hb (cell_al _ kt2)
              replace ky0 := cell_later hb (cell_al _ ky0)
              replace ky1 := cell_later hb (cell_al _ ky1)
              replace ku0 := cell_later hb (cell_al _ ku0)
              replace ku1 := cell_later hb (cell_al _ ku1)
              replace ku2 := cell_later hb (cell_al _ ku2)
              have ka0 : w5.cell? ⟨w4.heap.size, 0, none⟩ = some (.int .i64 a1) := cell_later hb (by go_simp)
              have ka1 : w5.cell? ⟨w4.heap.size, 1, none⟩ = some (.int .i64 a2) := cell_later hb (by go_simp)
              replace zt : w.heap.size < w5.heap.size := World.block_lt_of_cell? _ _ kt0
              have zt_w5 := zt
              replace zy : w.heap.size + 1 < w5.heap.size := World.block_lt_of_cell? _ _ ky0
              have zy_w5 := zy
              replace zu : w3.heap.size < w5.heap.size := World.block_lt_of_cell? _ _ ku0
              have zu_w5 := zu
              have za : w4.heap.size < w5.heap.size := World.block_lt_of_cell? _ _ ka0
              have za_w5 := za
              replace hb0 : Below w.heap.size w w5 := (by repeat (first | with_reducible exact Below.refl _ _ | with_reducible assumption | with_reducible refine Below.setCell ?_ (by first | omega | (simp <;> omega)) _ | with_reducible refine balloc ?_ _ | with_reducible refine Below.drew ?_ | with_reducible refine bstep ?_ (by with_reducible assumption)))
              have hs_w5 := hb.size; (try simp only [World.size_alloc, World.size_setCell] at hs_w5)
              clear hb
              go_wp2_with fail
              refine Calls.mono (WA _ (by repeat (first | with_reducible exact Below.refl _ _ | with_reducible assumption | with_reducible refine Below.setCell ?_ (by first | omega | (simp <;> omega)) _ | with_reducible refine balloc ?_ _ | with_reducible refine Below.drew ?_ | with_reducible refine bstep ?_ (by with_reducible assumption)))) ?_
              rintro e w6 ⟨wx, rfl, hx, hb⟩
              have hcx : Below w5.heap.size w5 w6 := (by repeat (first | with_reducible exact Below.refl _ _ | with_reducible assumption | with_reducible refine Below.setCell ?_ (by first | omega | (simp <;> omega)) _ | with_reducible refine balloc ?_ _ | with_reducible refine Below.drew ?_ | with_reducible refine bstep ?_ (by with_reducible assumption)))
              replace hs2 := hs2.below hcx
              clear hcx
              replace kt0 := cell_later hb (cell_al _ kt0)
              replace kt1 := cell_later hb (cell_al _ kt1)
              replace kt2 := cell_later hb (cell_al _ kt2)
              replace ky0 := cell_later hb (cell_al _ ky0)
              replace ky1 := cell_later hb (cell_al _ ky1)
              replace ku0 := cell_later hb (cell_al _ ku0)
              replace ku1 := cell_later hb (cell_al _ ku1)
              replace ku2 := cell_later hb (cell_al _ ku2)
              replace ka0 := cell_later hb (cell_al _ ka0)
              replace ka1 := cell_later hb (cell_al _ ka1)
              have kb0 : w6.cell? ⟨w5.heap.size, 0, none⟩ = some (.int .i64 c1) := cell_later hb (by go_simp)
              have kb1 : w6.cell? ⟨w5.heap.size, 1, none⟩ = some (.int .i64 c2) := cell_later hb (by go_simp)
              replace zt : w.heap.size < w6.heap.size := World.block_lt_of_cell? _ _ kt0
              have zt_w6 := zt
              replace zy : w.heap.size + 1 < w6.heap.size := World.block_lt_of_cell? _ _ ky0
              have zy_w6 := zy
              replace zu : w3.heap.size < w6.heap.size := World.block_lt_of_cell? _ _ ku0
              have zu_w6 := zu
              replace za : w4.heap.size < w6.heap.size := World.block_lt_of_cell? _ _ ka0
              have za_w6 := za
              have zb : w5.heap.size < w6.heap.size := World.block_lt_of_cell? _ _ kb0
              have zb_w6 := zb
              replace hb0 : Below w.heap.size w w6 := (by repeat (first | with_reducible exact Below.refl _ _ | with_reducible assumption | with_reducible refine Below.setCell ?_ (by first | omega | (simp <;> omega)) _ | with_reducible refine balloc ?_ _ | with_reducible refine Below.drew ?_ | with_reducible refine bstep ?_ (by with_reducible assumption)))
              have hs_w6 := hb.size; (try simp only [World.size_alloc, World.size_setCell] at hs_w6)
              clear hb
              go_wp2_with fail
              refine Calls.mono (WB _ _ (hs2.below (by repeat (first | with_reducible exact Below.refl _ _ | with_reducible assumption | with_reducible refine Below.setCell ?_ (by first | omega | (simp <;> omega)) _ | with_reducible refine balloc ?_ _ | with_reducible refine Below.drew ?_ | with_reducible refine bstep ?_ (by with_reducible assumption))))) ?_
              rintro e w7 ⟨wy, rfl, hy2, hb⟩
              have hcx : Below w6.heap.size w6 w7 := (by repeat (first | with_reducible exact Below.refl _ _ | with_reducible assumption | with_reducible refine Below.setCell ?_ (by first | omega | (simp <;> omega)) _ | with_reducible refine balloc ?_ _ | with_reducible refine Below.drew ?_ | with_reducible refine bstep ?_ (by with_reducible assumption)))
              replace hs2 := hs2.below hcx
              replace hx := hx.below hcx
              clear hcx
              replace kt0 := cell_later hb kt0
              replace kt1 := cell_later hb kt1
              replace kt2 := cell_later hb kt2
              replace ky0 := cell_later hb ky0
              replace ky1 := cell_later hb ky1
              replace ku0 := cell_later hb ku0
              replace ku1 := cell_later hb ku1
              replace ku2 := cell_later hb ku2
              replace ka0 := cell_later hb ka0
              replace ka1 := cell_later hb ka1
              replace kb0 := cell_later hb kb0
              replace kb1 := cell_later hb kb1
              replace zt : w.heap.size < w7.heap.size := World.block_lt_of_cell? _ _ kt0
              have zt_w7 := zt
              replace zy : w.heap.size + 1 < w7.heap.size := World.block_lt_of_cell? _ _ ky0
              have zy_w7 := zy
              replace zu : w3.heap.size < w7.heap.size := World.block_lt_of_cell? _ _ ku0
              have zu_w7 := zu
              replace za : w4.heap.size < w7.heap.size := World.block_lt_of_cell? _ _ ka0
              have za_w7 := za
              replace zb : w5.heap.size < w7.heap.size := World.block_lt_of_cell? _ _ kb0
              have zb_w7 := zb
              replace hb0 : Below w.heap.size w w7 := (by repeat (first | with_reducible exact Below.refl _ _ | with_reducible assumption | with_reducible refine Below.setCell ?_ (by first | omega | (simp <;> omega)) _ | with_reducible refine balloc ?_ _ | with_reducible refine Below.drew ?_ | with_reducible refine bstep ?_ (by with_reducible assumption)))
              have hs_w7 : w6.heap.size ≤ w7.heap.size := hb.size
              clear hb
              go_wp2_with fail
              refine Calls.mono (SQ _ _ _ _ (hx.below (by repeat (first | with_reducible exact Below.refl _ _ | with_reducible assumption | with_reducible refine Below.setCell ?_ (by first | omega | (simp <;> omega)) _ | with_reducible refine balloc ?_ _ | with_reducible refine Below.drew ?_ | with_reducible refine bstep ?_ (by with_reducible assumption)))) (hy2.below (by repeat (first | with_reducible exact Below.refl _ _ | with_reducible assumption | with_reducible refine Below.setCell ?_ (by first | omega | (simp <;> omega)) _ | with_reducible refine balloc ?_ _ | with_reducible refine Below.drew ?_ | with_reducible refine bstep ?_ (by with_reducible assumption))))) ?_
              rintro e w8 ⟨rfl, hb⟩
              have hcx : Below w7.heap.size w7 w8 := (by repeat (first | with_reducible exact Below.refl _ _ | with_reducible assumption | with_reducible refine Below.setCell ?_ (by first | omega | (simp <;> omega)) _ | with_reducible refine balloc ?_ _ | with_reducible refine Below.drew ?_ | with_reducible refine bstep ?_ (by with_reducible assumption)))
              replace hs2 := hs2.below hcx
              replace hx := hx.below hcx
              replace hy2 := hy2.below hcx
              clear hcx
              replace kt0 := cell_later hb kt0
              replace kt1 := cell_later hb kt1
              replace kt2 := cell_later hb kt2
              replace ky0 := cell_later hb ky0
              replace ky1 := cell_later hb ky1
              replace ku0 := cell_later hb ku0
              replace ku1 := cell_later hb ku1
              replace ku2 := cell_later hb ku2
              replace ka0 := cell_later hb ka0
              replace ka1 := cell_later hb ka1
              replace kb0 := cell_later hb kb0
              replace kb1 := cell_later hb kb1
              replace zt : w.heap.size < w8.heap.size := World.block_lt_of_cell? _ _ kt0
              have zt_w8 := zt
              replace zy : w.heap.size + 1 < w8.heap.size := World.block_lt_of_cell? _ _ ky0
              have zy_w8 := zy
              replace zu : w3.heap.size < w8.heap.size := World.block_lt_of_cell? _ _ ku0
              have zu_w8 := zu
              replace za : w4.heap.size < w8.heap.size := World.block_lt_of_cell? _ _ ka0
              have za_w8 := za
              replace zb : w5.heap.size < w8.heap.size := World.block_lt_of_cell? _ _ kb0
              have zb_w8 := zb
              replace hb0 : Below w.heap.size w w8 := (by repeat (first | with_reducible exact Below.refl _ _ | with_reducible assumption | with_reducible refine Below.setCell ?_ (by first | omega | (simp <;> omega)) _ | with_reducible refine balloc ?_ _ | with_reducible refine Below.drew ?_ | with_reducible refine bstep ?_ (by with_reducible assumption)))
              have hs_w8 : w7.heap.size ≤ w8.heap.size := hb.size
              clear hb
              go_wp2_with fail
              refine Calls.mono (AD _) ?_
              rintro e w9 ⟨rfl, hb⟩
              have hcx : Below w8.heap.size w8 w9 := (by repeat (first | with_reducible exact Below.refl _ _ | with_reducible assumption | with_reducible refine Below.setCell ?_ (by first | omega | (simp <;> omega)) _ | with_reducible refine balloc ?_ _ | with_reducible refine Below.drew ?_ | with_reducible refine bstep ?_ (by with_reducible assumption)))
              replace hs2 := hs2.below hcx
              replace hx := hx.below hcx
              replace hy2 := hy2.below hcx
              clear hcx
              replace kt0 := cell_later hb kt0
              replace kt1 := cell_later hb kt1
              replace kt2 := cell_later hb kt2
              replace ky0 := cell_later hb ky0
              replace ky1 := cell_later hb ky1
              replace ku0 := cell_later hb ku0
              replace ku1 := cell_later hb ku1
              replace ku2 := cell_later hb ku2
              replace ka0 := cell_later hb ka0
              replace ka1 := cell_later hb ka1
              replace kb0 := cell_later hb kb0
              replace kb1 := cell_later hb kb1
              replace zt : w.heap.size < w9.heap.size := World.block_lt_of_cell? _ _ kt0
              have zt_w9 := zt
              replace zy : w.heap.size + 1 < w9.heap.size := World.block_lt_of_cell? _ _ ky0
              have zy_w9 := zy
              replace zu : w3.heap.size < w9.heap.size := World.block_lt_of_cell? _ _ ku0
              have zu_w9 := zu
              replace za : w4.heap.size < w9.heap.size := World.block_lt_of_cell? _ _ ka0
              have za_w9 := za
              replace zb : w5.heap.size < w9.heap.size := World.block_lt_of_cell? _ _ kb0
              have zb_w9 := zb
              replace hb0 : Below w.heap.size w w9 := (by repeat (first | with_reducible exact Below.refl _ _ | with_reducible assumption | with_reducible refine Below.setCell ?_ (by first | omega | (simp <;> omega)) _ | with_reducible refine balloc ?_ _ | with_reducible refine Below.drew ?_ | with_reducible refine bstep ?_ (by with_reducible assumption)))
              have hs_w9 : w8.heap.size ≤ w9.heap.size := hb.size
              clear hb
              go_wp2
              go_ret
              exact ⟨rfl, (by repeat (first | with_reducible exact Below.refl _ _ | with_reducible assumption | with_reducible refine Below.setCell ?_ (by first | omega | (simp <;> omega)) _ | with_reducible refine balloc ?_ _ | with_reducible refine Below.drew ?_ | with_reducible refine bstep ?_ (by with_reducible assumption)))⟩
            · clear q2
              go_enter Try.func9, Try.ntmps9
              go_wp2_with fail
              refine Calls.mono (head_c _) ?_
              rintro e w1 ⟨rfl, hb⟩
              have kt0 : w1.cell? ⟨w.heap.size, 0, none⟩ = some (.int .i64 s) := cell_later hb (by go_simp)
              have kt1 : w1.cell? ⟨w.heap.size, 1, none⟩ = some (.int .i64 p) := cell_later hb (by go_simp)
              have kt2 : w1.cell? ⟨w.heap.size, 2, none⟩ = some (.slice pp l.length cap) := cell_later hb (by go_simp)
              have ky0 : w1.cell? ⟨w.heap.size + 1, 0, none⟩ = some (.int .i64 y1) := cell_later hb (by go_simp)
              have ky1 : w1.cell? ⟨w.heap.size + 1, 1, none⟩ = some (.int .i64 y2) := cell_later hb (by go_simp)
              have zt : w.heap.size < w1.heap.size := World.block_lt_of_cell? _ _ kt0
              have zt_w1 := zt
              have zy : w.heap.size + 1 < w1.heap.size := World.block_lt_of_cell? _ _ ky0
              have zy_w1 := zy
              have hb0 : Below w.heap.size w w1 := (by repeat (first | with_reducible exact Below.refl _ _ | with_reducible assumption | with_reducible refine Below.setCell ?_ (by first | omega | (simp <;> omega)) _ | with_reducible refine balloc ?_ _ | with_reducible refine Below.drew ?_ | with_reducible refine bstep ?_ (by with_reducible assumption)))
              have hs_w1 := hb.size; (try simp only [World.size_alloc, World.size_setCell] at hs_w1)
              clear hb
              go_wp2_with fail
              refine Calls.mono (F1 _ (by repeat (first | with_reducible exact Below.refl _ _ | with_reducible assumption | with_reducible refine Below.setCell ?_ (by first | omega | (simp <;> omega)) _ | with_reducible refine balloc ?_ _ | with_reducible refine Below.drew ?_ | with_reducible refine bstep ?_ (by with_reducible assumption)))) ?_
              rintro e w2 ⟨rfl, hb⟩
              replace kt0 := cell_later hb kt0
              replace kt1 := cell_later hb kt1
              replace kt2 := cell_later hb kt2
              replace ky0 := cell_later hb ky0
              replace ky1 := cell_later hb ky1
              replace zt : w.heap.size < w2.heap.size := World.block_lt_of_cell? _ _ kt0
              have zt_w2 := zt
              replace zy : w.heap.size + 1 < w2.heap.size := World.block_lt_of_cell? _ _ ky0
              have zy_w2 := zy
              replace hb0 : Below w.heap.size w w2 := (by repeat (first | with_reducible exact Below.refl _ _ | with_reducible assumption | with_reducible refine Below.setCell ?_ (by first | omega | (simp <;> omega)) _ | with_reducible refine balloc ?_ _ | with_reducible refine Below.drew ?_ | with_reducible refine bstep ?_ (by with_reducible assumption)))
              have hs_w2 : w1.heap.size ≤ w2.heap.size := hb.size
              clear hb
              go_wp2_with fail
              refine Calls.mono (rneed_c need _) ?_
              rintro e wx ⟨rfl, rfl⟩
              rw [h1]
              go_wp2_with fail
              refine Calls.mono (SH2 _ (by repeat (first | with_reducible exact Below.refl _ _ | with_reducible assumption | with_reducible refine Below.setCell ?_ (by first | omega | (simp <;> omega)) _ | with_reducible refine balloc ?_ _ | with_reducible refine Below.drew ?_ | with_reducible refine bstep ?_ (by with_reducible assumption)))) ?_
              rintro e w3 ⟨v2, rfl, hs2, hfr, hb⟩
              replace kt0 := cell_later hb kt0
              replace kt1 := cell_later hb kt1
              replace kt2 := cell_later hb kt2
              replace ky0 := cell_later hb ky0
              replace ky1 := cell_later hb ky1
              replace zt : w.heap.size < w3.heap.size := World.block_lt_of_cell? _ _ kt0
              have zt_w3 := zt
              replace zy : w.heap.size + 1 < w3.heap.size := World.block_lt_of_cell? _ _ ky0
              have zy_w3 := zy
              replace hb0 : Below w.heap.size w w3 := (by repeat (first | with_reducible exact Below.refl _ _ | with_reducible assumption | with_reducible refine Below.setCell ?_ (by first | omega | (simp <;> omega)) _ | with_reducible refine balloc ?_ _ | with_reducible refine Below.drew ?_ | with_reducible refine bstep ?_ (by with_reducible assumption)))
              have hs_w3 : w2.heap.size ≤ w3.heap.size := hb.size
              clear hb
              obtain ⟨⟨pp2, cap2, rfl, _, _, _⟩, _⟩ := id hs2
              rw [HLL.out] at hs2 ⊢
              go_wp2_with fail
              refine Calls.mono (rneed_c (need - y1) _) ?_
              rintro e wx ⟨rfl, rfl⟩
              rw [h4]
              go_wp2_with fail
              refine Calls.mono (HA _ (by repeat (first | with_reducible exact Below.refl _ _ | with_reducible assumption | with_reducible refine Below.setCell ?_ (by first | omega | (simp <;> omega)) _ | with_reducible refine balloc ?_ _ | with_reducible refine Below.drew ?_ | with_reducible refine bstep ?_ (by with_reducible assumption)))) ?_
              rintro e w4 ⟨rfl, hb⟩
              have hcx : Below w3.heap.size w3 w4 := (by repeat (first | with_reducible exact Below.refl _ _ | with_reducible assumption | with_reducible refine Below.setCell ?_ (by first | omega | (simp <;> omega)) _ | with_reducible refine balloc ?_ _ | with_reducible refine Below.drew ?_ | with_reducible refine bstep ?_ (by with_reducible assumption)))
              replace hs2 := hs2.below hcx
              clear hcx
              replace kt0 := cell_later hb (cell_al _ kt0)
              replace kt1 := cell_later hb (cell_al _ kt1)
              replace kt2 := cell_later hb (cell_al _ kt2)
              replace ky0 := cell_later hb (cell_al _ ky0)
              replace ky1 := cell_later hb (cell_al _ ky1)
              have ku0 : w4.cell? ⟨w3.heap.size, 0, none⟩ = some (.int .i64 s) := cell_later hb (by go_simp)
              have ku1 : w4.cell? ⟨w3.heap.size, 1, none⟩ = some (.int .i64 p) := cell_later hb (by go_simp)
              have ku2 : w4.cell? ⟨w3.heap.size, 2, none⟩ = some (.slice pp2 l.length cap2) := cell_later hb (by go_simp)
              replace zt : w.heap.size < w4.heap.size := World.block_lt_of_cell? _ _ kt0
              have zt_w4 := zt
              replace zy : w.heap.size + 1 < w4.heap.size := World.block_lt_of_cell? _ _ ky0
              have zy_w4 := zy
              have zu : w3.heap.size < w4.heap.size := World.block_lt_of_cell? _ _ ku0
              have zu_w4 := zu
              replace hb0 : Below w.heap.size w w4 := (by repeat (first | with_reducible exact Below.refl _ _ | with_reducible assumption | with_reducible refine Below.setCell ?_ (by first | omega | (simp <;> omega)) _ | with_reducible refine balloc ?_ _ | with_reducible refine Below.drew ?_ | with_reducible refine bstep ?_ (by with_reducible assumption)))
              have hs_w4 := hb.size; (try simp only [World.size_alloc, World.size_setCell] at hs_w4)
              clear hb
              go_wp2_with fail
              refine Calls.mono (HB _ _ (hs2.below (by repeat (first | with_reducible exact Below.refl _ _ | with_reducible assumption | with_reducible refine Below.setCell ?_ (by first | omega | (simp <;> omega)) _ | with_reducible refine balloc ?_ _ | with_reducible refine Below.drew ?_ | with_reducible refine bstep ?_ (by with_reducible assumption))))) ?_
              rintro e w5 ⟨rfl, hb⟩
              have hcx : Below w4.heap.size w4 w5 := (by repeat (first | with_reducible exact Below.refl _ _ | with_reducible assumption | with_reducible refine Below.setCell ?_ (by first | omega | (simp <;> omega)) _ | with_reducible refine balloc ?_ _ | with_reducible refine Below.drew ?_ | with_reducible refine bstep ?_ (by with_reducible assumption)))
              replace hs2 := hs2.below hcx
              clear hcx
              replace kt0 := cell_later hb (cell_al _ kt0)
              replace kt1 := cell_later hb (cell_al _ kt1)
              replace kt2 := cell_later hb (cell_al _ kt2)
              replace ky0 := cell_later hb (cell_al _ ky0)
              replace ky1 := cell_later hb (cell_al _ ky1)
              replace ku0 := cell_later hb (cell_al _ ku0)
              replace ku1 := cell_later hb (cell_al _ ku1)
              replace ku2 := cell_later hb (cell_al _ ku2)
              have ka0 : w5.cell? ⟨w4.heap.size, 0, none⟩ = some (.int .i64 a1) := cell_later hb (by go_simp)
              have ka1 : w5.cell? ⟨w4.heap.size, 1, none⟩ = some (.int .i64 a2) := cell_later hb (by go_simp)
              replace zt : w.heap.size < w5.heap.size := World.block_lt_of_cell? _ _ kt0
              have zt_w5 := zt
              replace zy : w.heap.size + 1 < w5.heap.size := World.block_lt_of_cell? _ _ ky0
              have zy_w5 := zy
              replace zu : w3.heap.size < w5.heap.size := World.block_lt_of_cell? _ _ ku0
              have zu_w5 := zu
              have za : w4.heap.size < w5.heap.size := World.block_lt_of_cell? _ _ ka0
              have za_w5 := za
              replace hb0 : Below w.heap.size w w5 := (by repeat (first | with_reducible exact Below.refl _ _ | with_reducible assumption | with_reducible refine Below.setCell ?_ (by first | omega | (simp <;> omega)) _ | with_reducible refine balloc ?_ _ | with_reducible refine Below.drew ?_ | with_reducible refine bstep ?_ (by with_reducible assumption)))
              have hs_w5 := hb.size; (try simp only [World.size_alloc, World.size_setCell] at hs_w5)
              clear hb
              go_wp2_with fail
              refine Calls.mono (WA _ (by repeat (first | with_reducible exact Below.refl _ _ | with_reducible assumption | with_reducible refine Below.setCell ?_ (by first | omega | (simp <;> omega)) _ | with_reducible refine balloc ?_ _ | with_reducible refine Below.drew ?_ | with_reducible refine bstep ?_ (by with_reducible assumption)))) ?_
              rintro e w6 ⟨wx, rfl, hx, hb⟩
              have hcx : Below w5.heap.size w5 w6 := (by repeat (first | with_reducible exact Below.refl _ _ | with_reducible assumption | with_reducible refine Below.setCell ?_ (by first | omega | (simp <;> omega)) _ | with_reducible refine balloc ?_ _ | with_reducible refine Below.drew ?_ | with_reducible refine bstep ?_ (by with_reducible assumption)))
              replace hs2 := hs2.below hcx
              clear hcx
              replace kt0 := cell_later hb (cell_al _ kt0)
              replace kt1 := cell_later hb (cell_al _ kt1)
              replace kt2 := cell_later hb (cell_al _ kt2)
              replace ky0 := cell_later hb (cell_al _ ky0)
              replace ky1 := cell_later hb (cell_al _ ky1)
              replace ku0 := cell_later hb (cell_al _ ku0)
              replace ku1 := cell_later hb (cell_al _ ku1)
              replace ku2 := cell_later hb (cell_al _ ku2)
              replace ka0 := cell_later hb (cell_al _ ka0)
              replace ka1 := cell_later hb (cell_al _ ka1)
              have kb0 : w6.cell? ⟨w5.heap.size, 0, none⟩ = some (.int .i64 b1) := cell_later hb (by go_simp)
              have kb1 : w6.cell? ⟨w5.heap.size, 1, none⟩ = some (.int .i64 b2) := cell_later hb (by go_simp)
              replace zt : w.heap.size < w6.heap.size := World.block_lt_of_cell? _ _ kt0
              have zt_w6 := zt
              replace zy : w.heap.size + 1 < w6.heap.size := World.block_lt_of_cell? _ _ ky0
              have zy_w6 := zy
              replace zu : w3.heap.size < w6.heap.size := World.block_lt_of_cell? _ _ ku0
              have zu_w6 := zu
              replace za : w4.heap.size < w6.heap.size := World.block_lt_of_cell? _ _ ka0
              have za_w6 := za
              have zb : w5.heap.size < w6.heap.size := World.block_lt_of_cell? _ _ kb0
              have zb_w6 := zb
              replace hb0 : Below w.heap.size w w6 := (by repeat (first | with_reducible exact Below.refl _ _ | with_reducible assumption | with_reducible refine Below.setCell ?_ (by first | omega | (simp <;> omega)) _ | with_reducible refine balloc ?_ _ | with_reducible refine Below.drew ?_ | with_reducible refine bstep ?_ (by with_reducible assumption)))
              have hs_w6 := hb.size; (try simp only [World.size_alloc, World.size_setCell] at hs_w6)
              clear hb
              go_wp2_with fail
              refine Calls.mono (WB _ _ (hs2.below (by repeat (first | with_reducible exact Below.refl _ _ | with_reducible assumption | with_reducible refine Below.setCell ?_ (by first | omega | (simp <;> omega)) _ | with_reducible refine balloc ?_ _ | with_reducible refine Below.drew ?_ | with_reducible refine bstep ?_ (by with_reducible assumption))))) ?_
              rintro e w7 ⟨wy, rfl, hy2, hb⟩
              have hcx : Below w6.heap.size w6 w7 := (by repeat (first | with_reducible exact Below.refl _ _ | with_reducible assumption | with_reducible refine Below.setCell ?_ (by first | omega | (simp <;> omega)) _ | with_reducible refine balloc ?_ _ | with_reducible refine Below.drew ?_ | with_reducible refine bstep ?_ (by with_reducible assumption)))
              replace hs2 := hs2.below hcx
              replace hx := hx.below hcx
              clear hcx
              replace kt0 := cell_later hb kt0
              replace kt1 := cell_later hb kt1
              replace kt2 := cell_later hb kt2
              replace ky0 := cell_later hb ky0
              replace ky1 := cell_later hb ky1
              replace ku0 := cell_later hb ku0
              replace ku1 := cell_later hb ku1
              replace ku2 := cell_later hb ku2
              replace ka0 := cell_later hb ka0
              replace ka1 := cell_later hb ka1
              replace kb0 := cell_later hb kb0
              replace kb1 := cell_later hb kb1
              replace zt : w.heap.size < w7.heap.size := World.block_lt_of_cell? _ _ kt0
              have zt_w7 := zt
              replace zy : w.heap.size + 1 < w7.heap.size := World.block_lt_of_cell? _ _ ky0
              have zy_w7 := zy
              replace zu : w3.heap.size < w7.heap.size := World.block_lt_of_cell? _ _ ku0
              have zu_w7 := zu
              replace za : w4.heap.size < w7.heap.size := World.block_lt_of_cell? _ _ ka0
              have za_w7 := za
              replace zb : w5.heap.size < w7.heap.size := World.block_lt_of_cell? _ _ kb0
              have zb_w7 := zb
              replace hb0 : Below w.heap.size w w7 := (by repeat (first | with_reducible exact Below.refl _ _ | with_reducible assumption | with_reducible refine Below.setCell ?_ (by first | omega | (simp <;> omega)) _ | with_reducible refine balloc ?_ _ | with_reducible refine Below.drew ?_ | with_reducible refine bstep ?_ (by with_reducible assumption)))
              have hs_w7 : w6.heap.size ≤ w7.heap.size := hb.size
              clear hb
              go_wp2_with fail
              refine Calls.mono (SQ _ _ _ _ (hx.below (by repeat (first | with_reducible exact Below.refl _ _ | with_reducible assumption | with_reducible refine Below.setCell ?_ (by first | omega | (simp <;> omega)) _ | with_reducible refine balloc ?_ _ | with_reducible refine Below.drew ?_ | with_reducible refine bstep ?_ (by with_reducible assumption)))) (hy2.below (by repeat (first | with_reducible exact Below.refl _ _ | with_reducible assumption | with_reducible refine Below.setCell ?_ (by first | omega | (simp <;> omega)) _ | with_reducible refine balloc ?_ _ | with_reducible refine Below.drew ?_ | with_reducible refine bstep ?_ (by with_reducible assumption))))) ?_
              rintro e w8 ⟨rfl, hb⟩
              have hcx : Below w7.heap.size w7 w8 := (by repeat (first | with_reducible exact Below.refl _ _ | with_reducible assumption | with_reducible refine Below.setCell ?_ (by first | omega | (simp <;> omega)) _ | with_reducible refine balloc ?_ _ | with_reducible refine Below.drew ?_ | with_reducible refine bstep ?_ (by with_reducible assumption)))
              replace hs2 := hs2.below hcx
              replace hx := hx.below hcx
              replace hy2 := hy2.below hcx
              clear hcx
              replace kt0 := cell_later hb kt0
              replace kt1 := cell_later hb kt1
              replace kt2 := cell_later hb kt2
              replace ky0 := cell_later hb ky0
              replace ky1 := cell_later hb ky1
              replace ku0 := cell_later hb ku0
              replace ku1 := cell_later hb ku1
              replace ku2 := cell_later hb ku2
              replace ka0 := cell_later hb ka0
              replace ka1 := cell_later hb ka1
              replace kb0 := cell_later hb kb0
              replace kb1 := cell_later hb kb1
              replace zt : w.heap.size < w8.heap.size := World.block_lt_of_cell? _ _ kt0
              have zt_w8 := zt
              replace zy : w.heap.size + 1 < w8.heap.size := World.block_lt_of_cell? _ _ ky0
              have zy_w8 := zy
              replace zu : w3.heap.size < w8.heap.size := World.block_lt_of_cell? _ _ ku0
              have zu_w8 := zu
              replace za : w4.heap.size < w8.heap.size := World.block_lt_of_cell? _ _ ka0
              have za_w8 := za
              replace zb : w5.heap.size < w8.heap.size := World.block_lt_of_cell? _ _ kb0
              have zb_w8 := zb
              replace hb0 : Below w.heap.size w w8 := (by repeat (first | with_reducible exact Below.refl _ _ | with_reducible assumption | with_reducible refine Below.setCell ?_ (by first | omega | (simp <;> omega)) _ | with_reducible refine balloc ?_ _ | with_reducible refine Below.drew ?_ | with_reducible refine bstep ?_ (by with_reducible assumption)))
              have hs_w8 : w7.heap.size ≤ w8.heap.size := hb.size
              clear hb
              go_wp2
              go_ret
              exact ⟨rfl, (by repeat (first | with_reducible exact Below.refl _ _ | with_reducible assumption | with_reducible refine Below.setCell ?_ (by first | omega | (simp <;> omega)) _ | with_reducible refine balloc ?_ _ | with_reducible refine Below.drew ?_ | with_reducible refine bstep ?_ (by with_reducible assumption)))⟩


end Go.Proofs.Ytemogomligbgiaa.Ti
