/- L6Next: the law Next. -/
import Derived.Test.YtemogomligbgiaaTidNx
import Derived.Test.YtemogomligbgiaaRows
import Derived.WalkKit
import Derived.WalkSpells
import Derived.WalkLawsBesides
import Derived.Lib.Hide
import Derived.Deep.QuietTactic
import Derived.BigQuiet
import Derived.RegionTactic
import Derived.ChangeAlike
import Derived.BigRegion
import Derived.Deep.RegionHeld3
import Derived.Deep.RegionWith
import Derived.Outline
import Derived.IntWalk
import Derived.Deep.DeepCutAuto
import Derived.LoopTactic
namespace Go.Proofs.Ytemogomligbgiaa.Ti
open Go.RowKit Sp
set_option linter.unusedSimpArgs false
set_option linter.unusedVariables false

set_option maxRecDepth 100000 in
set_option maxHeartbeats 16000000 in
theorem next_w (w : World) (s p : Int) (u : Value) (l : List Pr) (hsp : Spans w u l) (need f g o : Int) : Calls Try.prog 7 #[.agg #[(.int .i64 s), (.int .i64 p), u], (.int .i64 need), (.int .i64 f), (.int .i64 g), (.int .i64 o)] w (Ret w (.bool true)) := by
  have F1 := fun W h => few_c s p u l W (hsp.below h)
  have V1 := fun W h => RValid_c s p u l W (hsp.below h)
  have NX := fun W h => Next_c s p u l need f g W (hsp.below h)
  have HH := fun a c W h => Height_c s p u l a c W (hsp.below h)
  have hok : ndB need = true → tmB f = true → tmB g = true → vaT s p l = true → nOk s p l need f g = true := fun a b c d => by unfold nOk; rw [a, b, c, d]; rfl
  obtain ⟨⟨pp, cap, rfl, hn, hcap, hp⟩, hl⟩ := hsp
  clear hn hp
  generalize fewB p l = few at *
  cases h0 : few
  · subst h0
    clear NX HH hok
    go_enter Try.func7, Try.ntmps7
    go_wp2_with fail
    refine Calls.mono (head_c _) ?_
    rintro e w1 ⟨rfl, hb⟩
    have kt0 : w1.cell? ⟨w.heap.size, 0, none⟩ = some (.int .i64 s) := cell_later hb (by go_simp)
    have kt1 : w1.cell? ⟨w.heap.size, 1, none⟩ = some (.int .i64 p) := cell_later hb (by go_simp)
    have kt2 : w1.cell? ⟨w.heap.size, 2, none⟩ = some (.slice pp l.length cap) := cell_later hb (by go_simp)
    have zt : w.heap.size < w1.heap.size := World.block_lt_of_cell? _ _ kt0
    have zt_w1 := zt
    have hb0 : Below w.heap.size w w1 := (by repeat (first | with_reducible exact Below.refl _ _ | with_reducible assumption | with_reducible refine Below.setCell ?_ (by first | omega | (simp <;> omega)) _ | with_reducible refine balloc ?_ _ | with_reducible refine Below.drew ?_ | with_reducible refine bstep ?_ (by with_reducible assumption)))
    have hs_w1 := hb.size; (try simp only [World.size_alloc, World.size_setCell] at hs_w1)
    clear hb
    go_wp2_with fail
    refine Calls.mono (F1 _ (by repeat (first | with_reducible exact Below.refl _ _ | with_reducible assumption | with_reducible refine Below.setCell ?_ (by first | omega | (simp <;> omega)) _ | with_reducible refine balloc ?_ _ | with_reducible refine Below.drew ?_ | with_reducible refine bstep ?_ (by with_reducible assumption)))) ?_
    rintro e w2 ⟨rfl, hb⟩
    replace kt0 := cell_later hb kt0
    replace kt1 := cell_later hb kt1
    replace kt2 := cell_later hb kt2
    replace zt : w.heap.size < w2.heap.size := World.block_lt_of_cell? _ _ kt0
    have zt_w2 := zt
    replace hb0 : Below w.heap.size w w2 := (by repeat (first | with_reducible exact Below.refl _ _ | with_reducible assumption | with_reducible refine Below.setCell ?_ (by first | omega | (simp <;> omega)) _ | with_reducible refine balloc ?_ _ | with_reducible refine Below.drew ?_ | with_reducible refine bstep ?_ (by with_reducible assumption)))
    have hs_w2 : w1.heap.size ≤ w2.heap.size := hb.size
    clear hb
    go_wp2
    go_ret
    exact ⟨rfl, (by repeat (first | with_reducible exact Below.refl _ _ | with_reducible assumption | with_reducible refine Below.setCell ?_ (by first | omega | (simp <;> omega)) _ | with_reducible refine balloc ?_ _ | with_reducible refine Below.drew ?_ | with_reducible refine bstep ?_ (by with_reducible assumption)))⟩
  · cases h1 : ndB need
    · subst h0
      clear NX HH hok
      go_enter Try.func7, Try.ntmps7
      go_wp2_with fail
      refine Calls.mono (head_c _) ?_
      rintro e w1 ⟨rfl, hb⟩
      have kt0 : w1.cell? ⟨w.heap.size, 0, none⟩ = some (.int .i64 s) := cell_later hb (by go_simp)
      have kt1 : w1.cell? ⟨w.heap.size, 1, none⟩ = some (.int .i64 p) := cell_later hb (by go_simp)
      have kt2 : w1.cell? ⟨w.heap.size, 2, none⟩ = some (.slice pp l.length cap) := cell_later hb (by go_simp)
      have zt : w.heap.size < w1.heap.size := World.block_lt_of_cell? _ _ kt0
      have zt_w1 := zt
      have hb0 : Below w.heap.size w w1 := (by repeat (first | with_reducible exact Below.refl _ _ | with_reducible assumption | with_reducible refine Below.setCell ?_ (by first | omega | (simp <;> omega)) _ | with_reducible refine balloc ?_ _ | with_reducible refine Below.drew ?_ | with_reducible refine bstep ?_ (by with_reducible assumption)))
      have hs_w1 := hb.size; (try simp only [World.size_alloc, World.size_setCell] at hs_w1)
      clear hb
      go_wp2_with fail
      refine Calls.mono (F1 _ (by repeat (first | with_reducible exact Below.refl _ _ | with_reducible assumption | with_reducible refine Below.setCell ?_ (by first | omega | (simp <;> omega)) _ | with_reducible refine balloc ?_ _ | with_reducible refine Below.drew ?_ | with_reducible refine bstep ?_ (by with_reducible assumption)))) ?_
      rintro e w2 ⟨rfl, hb⟩
      replace kt0 := cell_later hb kt0
      replace kt1 := cell_later hb kt1
      replace kt2 := cell_later hb kt2
      replace zt : w.heap.size < w2.heap.size := World.block_lt_of_cell? _ _ kt0
      have zt_w2 := zt
      replace hb0 : Below w.heap.size w w2 := (by repeat (first | with_reducible exact Below.refl _ _ | with_reducible assumption | with_reducible refine Below.setCell ?_ (by first | omega | (simp <;> omega)) _ | with_reducible refine balloc ?_ _ | with_reducible refine Below.drew ?_ | with_reducible refine bstep ?_ (by with_reducible assumption)))
      have hs_w2 : w1.heap.size ≤ w2.heap.size := hb.size
      clear hb
      go_wp2_with fail
      refine Calls.mono (rneed_c need _) ?_
      rintro e wx ⟨rfl, rfl⟩
      rw [h1]
      go_wp2
      go_ret
      exact ⟨rfl, (by repeat (first | with_reducible exact Below.refl _ _ | with_reducible assumption | with_reducible refine Below.setCell ?_ (by first | omega | (simp <;> omega)) _ | with_reducible refine balloc ?_ _ | with_reducible refine Below.drew ?_ | with_reducible refine bstep ?_ (by with_reducible assumption)))⟩
    · cases h2 : tmB f
      · subst h0
        clear NX HH hok
        go_enter Try.func7, Try.ntmps7
        go_wp2_with fail
        refine Calls.mono (head_c _) ?_
        rintro e w1 ⟨rfl, hb⟩
        have kt0 : w1.cell? ⟨w.heap.size, 0, none⟩ = some (.int .i64 s) := cell_later hb (by go_simp)
        have kt1 : w1.cell? ⟨w.heap.size, 1, none⟩ = some (.int .i64 p) := cell_later hb (by go_simp)
        have kt2 : w1.cell? ⟨w.heap.size, 2, none⟩ = some (.slice pp l.length cap) := cell_later hb (by go_simp)
        have zt : w.heap.size < w1.heap.size := World.block_lt_of_cell? _ _ kt0
        have zt_w1 := zt
        have hb0 : Below w.heap.size w w1 := (by repeat (first | with_reducible exact Below.refl _ _ | with_reducible assumption | with_reducible refine Below.setCell ?_ (by first | omega | (simp <;> omega)) _ | with_reducible refine balloc ?_ _ | with_reducible refine Below.drew ?_ | with_reducible refine bstep ?_ (by with_reducible assumption)))
        have hs_w1 := hb.size; (try simp only [World.size_alloc, World.size_setCell] at hs_w1)
        clear hb
        go_wp2_with fail
        refine Calls.mono (F1 _ (by repeat (first | with_reducible exact Below.refl _ _ | with_reducible assumption | with_reducible refine Below.setCell ?_ (by first | omega | (simp <;> omega)) _ | with_reducible refine balloc ?_ _ | with_reducible refine Below.drew ?_ | with_reducible refine bstep ?_ (by with_reducible assumption)))) ?_
        rintro e w2 ⟨rfl, hb⟩
        replace kt0 := cell_later hb kt0
        replace kt1 := cell_later hb kt1
        replace kt2 := cell_later hb kt2
        replace zt : w.heap.size < w2.heap.size := World.block_lt_of_cell? _ _ kt0
        have zt_w2 := zt
        replace hb0 : Below w.heap.size w w2 := (by repeat (first | with_reducible exact Below.refl _ _ | with_reducible assumption | with_reducible refine Below.setCell ?_ (by first | omega | (simp <;> omega)) _ | with_reducible refine balloc ?_ _ | with_reducible refine Below.drew ?_ | with_reducible refine bstep ?_ (by with_reducible assumption)))
        have hs_w2 : w1.heap.size ≤ w2.heap.size := hb.size
        clear hb
        go_wp2_with fail
        refine Calls.mono (rneed_c need _) ?_
        rintro e wx ⟨rfl, rfl⟩
        rw [h1]
        go_wp2_with fail
        refine Calls.mono (rtime_c f _) ?_
        rintro e wx ⟨rfl, rfl⟩
        rw [h2]
        go_wp2
        go_ret
        exact ⟨rfl, (by repeat (first | with_reducible exact Below.refl _ _ | with_reducible assumption | with_reducible refine Below.setCell ?_ (by first | omega | (simp <;> omega)) _ | with_reducible refine balloc ?_ _ | with_reducible refine Below.drew ?_ | with_reducible refine bstep ?_ (by with_reducible assumption)))⟩
      · cases h3 : tmB g
        · subst h0
          clear NX HH hok
          go_enter Try.func7, Try.ntmps7
          go_wp2_with fail
          refine Calls.mono (head_c _) ?_
          rintro e w1 ⟨rfl, hb⟩
          have kt0 : w1.cell? ⟨w.heap.size, 0, none⟩ = some (.int .i64 s) := cell_later hb (by go_simp)
          have kt1 : w1.cell? ⟨w.heap.size, 1, none⟩ = some (.int .i64 p) := cell_later hb (by go_simp)
          have kt2 : w1.cell? ⟨w.heap.size, 2, none⟩ = some (.slice pp l.length cap) := cell_later hb (by go_simp)
          have zt : w.heap.size < w1.heap.size := World.block_lt_of_cell? _ _ kt0
          have zt_w1 := zt
          have hb0 : Below w.heap.size w w1 := (by repeat (first | with_reducible exact Below.refl _ _ | with_reducible assumption | with_reducible refine Below.setCell ?_ (by first | omega | (simp <;> omega)) _ | with_reducible refine balloc ?_ _ | with_reducible refine Below.drew ?_ | with_reducible refine bstep ?_ (by with_reducible assumption)))
          have hs_w1 := hb.size; (try simp only [World.size_alloc, World.size_setCell] at hs_w1)
          clear hb
          go_wp2_with fail
          refine Calls.mono (F1 _ (by repeat (first | with_reducible exact Below.refl _ _ | with_reducible assumption | with_reducible refine Below.setCell ?_ (by first | omega | (simp <;> omega)) _ | with_reducible refine balloc ?_ _ | with_reducible refine Below.drew ?_ | with_reducible refine bstep ?_ (by with_reducible assumption)))) ?_
          rintro e w2 ⟨rfl, hb⟩
          replace kt0 := cell_later hb kt0
          replace kt1 := cell_later hb kt1
          replace kt2 := cell_later hb kt2
          replace zt : w.heap.size < w2.heap.size := World.block_lt_of_cell? _ _ kt0
          have zt_w2 := zt
          replace hb0 : Below w.heap.size w w2 := (by repeat (first | with_reducible exact Below.refl _ _ | with_reducible assumption | with_reducible refine Below.setCell ?_ (by first | omega | (simp <;> omega)) _ | with_reducible refine balloc ?_ _ | with_reducible refine Below.drew ?_ | with_reducible refine bstep ?_ (by with_reducible assumption)))
          have hs_w2 : w1.heap.size ≤ w2.heap.size := hb.size
          clear hb
          go_wp2_with fail
          refine Calls.mono (rneed_c need _) ?_
          rintro e wx ⟨rfl, rfl⟩
          rw [h1]
          go_wp2_with fail
          refine Calls.mono (rtime_c f _) ?_
          rintro e wx ⟨rfl, rfl⟩
          rw [h2]
          go_wp2_with fail
          refine Calls.mono (rtime_c g _) ?_
          rintro e wx ⟨rfl, rfl⟩
          rw [h3]
          go_wp2
          go_ret
          exact ⟨rfl, (by repeat (first | with_reducible exact Below.refl _ _ | with_reducible assumption | with_reducible refine Below.setCell ?_ (by first | omega | (simp <;> omega)) _ | with_reducible refine balloc ?_ _ | with_reducible refine Below.drew ?_ | with_reducible refine bstep ?_ (by with_reducible assumption)))⟩
        · cases h4 : vaT s p l
          · subst h0
            clear NX HH hok
            go_enter Try.func7, Try.ntmps7
            go_wp2_with fail
            refine Calls.mono (head_c _) ?_
            rintro e w1 ⟨rfl, hb⟩
            have kt0 : w1.cell? ⟨w.heap.size, 0, none⟩ = some (.int .i64 s) := cell_later hb (by go_simp)
            have kt1 : w1.cell? ⟨w.heap.size, 1, none⟩ = some (.int .i64 p) := cell_later hb (by go_simp)
            have kt2 : w1.cell? ⟨w.heap.size, 2, none⟩ = some (.slice pp l.length cap) := cell_later hb (by go_simp)
            have zt : w.heap.size < w1.heap.size := World.block_lt_of_cell? _ _ kt0
            have zt_w1 := zt
            have hb0 : Below w.heap.size w w1 := (by repeat (first | with_reducible exact Below.refl _ _ | with_reducible assumption | with_reducible refine Below.setCell ?_ (by first | omega | (simp <;> omega)) _ | with_reducible refine balloc ?_ _ | with_reducible refine Below.drew ?_ | with_reducible refine bstep ?_ (by with_reducible assumption)))
            have hs_w1 := hb.size; (try simp only [World.size_alloc, World.size_setCell] at hs_w1)
            clear hb
            go_wp2_with fail
            refine Calls.mono (F1 _ (by repeat (first | with_reducible exact Below.refl _ _ | with_reducible assumption | with_reducible refine Below.setCell ?_ (by first | omega | (simp <;> omega)) _ | with_reducible refine balloc ?_ _ | with_reducible refine Below.drew ?_ | with_reducible refine bstep ?_ (by with_reducible assumption)))) ?_
            rintro e w2 ⟨rfl, hb⟩
            replace kt0 := cell_later hb kt0
            replace kt1 := cell_later hb kt1
            replace kt2 := cell_later hb kt2
            replace zt : w.heap.size < w2.heap.size := World.block_lt_of_cell? _ _ kt0
            have zt_w2 := zt
            replace hb0 : Below w.heap.size w w2 := (by repeat (first | with_reducible exact Below.refl _ _ | with_reducible assumption | with_reducible refine Below.setCell ?_ (by first | omega | (simp <;> omega)) _ | with_reducible refine balloc ?_ _ | with_reducible refine Below.drew ?_ | with_reducible refine bstep ?_ (by with_reducible assumption)))
            have hs_w2 : w1.heap.size ≤ w2.heap.size := hb.size
            clear hb
            go_wp2_with fail
            refine Calls.mono (rneed_c need _) ?_
            rintro e wx ⟨rfl, rfl⟩
            rw [h1]
            go_wp2_with fail
            refine Calls.mono (rtime_c f _) ?_
            rintro e wx ⟨rfl, rfl⟩
            rw [h2]
            go_wp2_with fail
            refine Calls.mono (rtime_c g _) ?_
            rintro e wx ⟨rfl, rfl⟩
            rw [h3]
            go_wp2_with fail
            refine Calls.mono (V1 _ (by repeat (first | with_reducible exact Below.refl _ _ | with_reducible assumption | with_reducible refine Below.setCell ?_ (by first | omega | (simp <;> omega)) _ | with_reducible refine balloc ?_ _ | with_reducible refine Below.drew ?_ | with_reducible refine bstep ?_ (by with_reducible assumption)))) ?_
            rintro e w3 ⟨rfl, hb⟩
            replace kt0 := cell_later hb kt0
            replace kt1 := cell_later hb kt1
            replace kt2 := cell_later hb kt2
            replace zt : w.heap.size < w3.heap.size := World.block_lt_of_cell? _ _ kt0
            have zt_w3 := zt
            replace hb0 : Below w.heap.size w w3 := (by repeat (first | with_reducible exact Below.refl _ _ | with_reducible assumption | with_reducible refine Below.setCell ?_ (by first | omega | (simp <;> omega)) _ | with_reducible refine balloc ?_ _ | with_reducible refine Below.drew ?_ | with_reducible refine bstep ?_ (by with_reducible assumption)))
            have hs_w3 : w2.heap.size ≤ w3.heap.size := hb.size
            clear hb
            rw [h4]
            go_wp2
            go_ret
            exact ⟨rfl, (by repeat (first | with_reducible exact Below.refl _ _ | with_reducible assumption | with_reducible refine Below.setCell ?_ (by first | omega | (simp <;> omega)) _ | with_reducible refine balloc ?_ _ | with_reducible refine Below.drew ?_ | with_reducible refine bstep ?_ (by with_reducible assumption)))⟩
          · subst h0
            have ok := hok h1 h2 h3 h4
            obtain ⟨f1, f2⟩ := btB_iff.1 h2
            obtain ⟨g1, g2⟩ := btB_iff.1 h3
            clear hok
            have NO := fun ho => next_no (s := s) (p := p) (l := l) (need := need) (f := f) (g := g) (o := o) g1 ho
            have he0 : nE s p l need f g = erv true (nxT f g (wiT s p l need)).isSome 4 := by unfold nE nX; rw [ok]; rfl
            have hv0 : nV s p l need f g = (match nxT f g (wiT s p l need) with | some v => max f v.1 | none => 0) := by unfold nV nX; rw [ok]; rfl
            have HO := fun W h => HH o (o + g) W h
            generalize hE s p l o (o + g) = eo at *
            generalize hV s p l o (o + g) = a at *
            obtain ⟨a1, a2⟩ := a
            dsimp only at NO HO
            rcases hnx : nxT f g (wiT s p l need) with _ | v
            · rw [hnx] at he0 hv0
              have HX := Lib.hid hnx
              simp only [Option.isSome, erv, cond] at he0 hv0
              rw [he0, hv0] at NX
              clear hnx he0 hv0 HH
              by_cases o1 : o < f
              · go_enter Try.func7, Try.ntmps7
                go_wp2_with fail
                refine Calls.mono (head_c _) ?_
                rintro e w1 ⟨rfl, hb⟩
                have kt0 : w1.cell? ⟨w.heap.size, 0, none⟩ = some (.int .i64 s) := cell_later hb (by go_simp)
                have kt1 : w1.cell? ⟨w.heap.size, 1, none⟩ = some (.int .i64 p) := cell_later hb (by go_simp)
                have kt2 : w1.cell? ⟨w.heap.size, 2, none⟩ = some (.slice pp l.length cap) := cell_later hb (by go_simp)
                have zt : w.heap.size < w1.heap.size := World.block_lt_of_cell? _ _ kt0
                have zt_w1 := zt
                have hb0 : Below w.heap.size w w1 := (by repeat (first | with_reducible exact Below.refl _ _ | with_reducible assumption | with_reducible refine Below.setCell ?_ (by first | omega | (simp <;> omega)) _ | with_reducible refine balloc ?_ _ | with_reducible refine Below.drew ?_ | with_reducible refine bstep ?_ (by with_reducible assumption)))
                have hs_w1 := hb.size; (try simp only [World.size_alloc, World.size_setCell] at hs_w1)
                clear hb
                go_wp2_with fail
                refine Calls.mono (F1 _ (by repeat (first | with_reducible exact Below.refl _ _ | with_reducible assumption | with_reducible refine Below.setCell ?_ (by first | omega | (simp <;> omega)) _ | with_reducible refine balloc ?_ _ | with_reducible refine Below.drew ?_ | with_reducible refine bstep ?_ (by with_reducible assumption)))) ?_
                rintro e w2 ⟨rfl, hb⟩
                replace kt0 := cell_later hb kt0
                replace kt1 := cell_later hb kt1
                replace kt2 := cell_later hb kt2
                replace zt : w.heap.size < w2.heap.size := World.block_lt_of_cell? _ _ kt0
                have zt_w2 := zt
                replace hb0 : Below w.heap.size w w2 := (by repeat (first | with_reducible exact Below.refl _ _ | with_reducible assumption | with_reducible refine Below.setCell ?_ (by first | omega | (simp <;> omega)) _ | with_reducible refine balloc ?_ _ | with_reducible refine Below.drew ?_ | with_reducible refine bstep ?_ (by with_reducible assumption)))
                have hs_w2 : w1.heap.size ≤ w2.heap.size := hb.size
                clear hb
                go_wp2_with fail
                refine Calls.mono (rneed_c need _) ?_
                rintro e wx ⟨rfl, rfl⟩
                rw [h1]
                go_wp2_with fail
                refine Calls.mono (rtime_c f _) ?_
                rintro e wx ⟨rfl, rfl⟩
                rw [h2]
                go_wp2_with fail
                refine Calls.mono (rtime_c g _) ?_
                rintro e wx ⟨rfl, rfl⟩
                rw [h3]
                go_wp2_with fail
                refine Calls.mono (V1 _ (by repeat (first | with_reducible exact Below.refl _ _ | with_reducible assumption | with_reducible refine Below.setCell ?_ (by first | omega | (simp <;> omega)) _ | with_reducible refine balloc ?_ _ | with_reducible refine Below.drew ?_ | with_reducible refine bstep ?_ (by with_reducible assumption)))) ?_
                rintro e w3 ⟨rfl, hb⟩
                replace kt0 := cell_later hb kt0
                replace kt1 := cell_later hb kt1
                replace kt2 := cell_later hb kt2
                replace zt : w.heap.size < w3.heap.size := World.block_lt_of_cell? _ _ kt0
                have zt_w3 := zt
                replace hb0 : Below w.heap.size w w3 := (by repeat (first | with_reducible exact Below.refl _ _ | with_reducible assumption | with_reducible refine Below.setCell ?_ (by first | omega | (simp <;> omega)) _ | with_reducible refine balloc ?_ _ | with_reducible refine Below.drew ?_ | with_reducible refine bstep ?_ (by with_reducible assumption)))
                have hs_w3 : w2.heap.size ≤ w3.heap.size := hb.size
                clear hb
                rw [h4]
                go_wp2_with fail
                refine Calls.mono (NX _ (by repeat (first | with_reducible exact Below.refl _ _ | with_reducible assumption | with_reducible refine Below.setCell ?_ (by first | omega | (simp <;> omega)) _ | with_reducible refine balloc ?_ _ | with_reducible refine Below.drew ?_ | with_reducible refine bstep ?_ (by with_reducible assumption)))) ?_
                rintro e w4 ⟨rfl, hb⟩
                replace kt0 := cell_later hb kt0
                replace kt1 := cell_later hb kt1
                replace kt2 := cell_later hb kt2
                replace zt : w.heap.size < w4.heap.size := World.block_lt_of_cell? _ _ kt0
                have zt_w4 := zt
                replace hb0 : Below w.heap.size w w4 := (by repeat (first | with_reducible exact Below.refl _ _ | with_reducible assumption | with_reducible refine Below.setCell ?_ (by first | omega | (simp <;> omega)) _ | with_reducible refine balloc ?_ _ | with_reducible refine Below.drew ?_ | with_reducible refine bstep ?_ (by with_reducible assumption)))
                have hs_w4 : w3.heap.size ≤ w4.heap.size := hb.size
                clear hb
                go_wp2
                go_ret
                exact ⟨rfl, (by repeat (first | with_reducible exact Below.refl _ _ | with_reducible assumption | with_reducible refine Below.setCell ?_ (by first | omega | (simp <;> omega)) _ | with_reducible refine balloc ?_ _ | with_reducible refine Below.drew ?_ | with_reducible refine bstep ?_ (by with_reducible assumption)))⟩
              · by_cases o2 : 10000000 - g < o
                · go_enter Try.func7, Try.ntmps7
                  go_wp2_with fail
                  refine Calls.mono (head_c _) ?_
                  rintro e w1 ⟨rfl, hb⟩
                  have kt0 : w1.cell? ⟨w.heap.size, 0, none⟩ = some (.int .i64 s) := cell_later hb (by go_simp)
                  have kt1 : w1.cell? ⟨w.heap.size, 1, none⟩ = some (.int .i64 p) := cell_later hb (by go_simp)
                  have kt2 : w1.cell? ⟨w.heap.size, 2, none⟩ = some (.slice pp l.length cap) := cell_later hb (by go_simp)
                  have zt : w.heap.size < w1.heap.size := World.block_lt_of_cell? _ _ kt0
                  have zt_w1 := zt
                  have hb0 : Below w.heap.size w w1 := (by repeat (first | with_reducible exact Below.refl _ _ | with_reducible assumption | with_reducible refine Below.setCell ?_ (by first | omega | (simp <;> omega)) _ | with_reducible refine balloc ?_ _ | with_reducible refine Below.drew ?_ | with_reducible refine bstep ?_ (by with_reducible assumption)))
                  have hs_w1 := hb.size; (try simp only [World.size_alloc, World.size_setCell] at hs_w1)
                  clear hb
                  go_wp2_with fail
                  refine Calls.mono (F1 _ (by repeat (first | with_reducible exact Below.refl _ _ | with_reducible assumption | with_reducible refine Below.setCell ?_ (by first | omega | (simp <;> omega)) _ | with_reducible refine balloc ?_ _ | with_reducible refine Below.drew ?_ | with_reducible refine bstep ?_ (by with_reducible assumption)))) ?_
                  rintro e w2 ⟨rfl, hb⟩
                  replace kt0 := cell_later hb kt0
                  replace kt1 := cell_later hb kt1
                  replace kt2 := cell_later hb kt2
                  replace zt : w.heap.size < w2.heap.size := World.block_lt_of_cell? _ _ kt0
                  have zt_w2 := zt
                  replace hb0 : Below w.heap.size w w2 := (by repeat (first | with_reducible exact Below.refl _ _ | with_reducible assumption | with_reducible refine Below.setCell ?_ (by first | omega | (simp <;> omega)) _ | with_reducible refine balloc ?_ _ | with_reducible refine Below.drew ?_ | with_reducible refine bstep ?_ (by with_reducible assumption)))
                  have hs_w2 : w1.heap.size ≤ w2.heap.size := hb.size
                  clear hb
                  go_wp2_with fail
                  refine Calls.mono (rneed_c need _) ?_
                  rintro e wx ⟨rfl, rfl⟩
                  rw [h1]
                  go_wp2_with fail
                  refine Calls.mono (rtime_c f _) ?_
                  rintro e wx ⟨rfl, rfl⟩
                  rw [h2]
                  go_wp2_with fail
                  refine Calls.mono (rtime_c g _) ?_
                  rintro e wx ⟨rfl, rfl⟩
                  rw [h3]
                  go_wp2_with fail
                  refine Calls.mono (V1 _ (by repeat (first | with_reducible exact Below.refl _ _ | with_reducible assumption | with_reducible refine Below.setCell ?_ (by first | omega | (simp <;> omega)) _ | with_reducible refine balloc ?_ _ | with_reducible refine Below.drew ?_ | with_reducible refine bstep ?_ (by with_reducible assumption)))) ?_
                  rintro e w3 ⟨rfl, hb⟩
                  replace kt0 := cell_later hb kt0
                  replace kt1 := cell_later hb kt1
                  replace kt2 := cell_later hb kt2
                  replace zt : w.heap.size < w3.heap.size := World.block_lt_of_cell? _ _ kt0
                  have zt_w3 := zt
                  replace hb0 : Below w.heap.size w w3 := (by repeat (first | with_reducible exact Below.refl _ _ | with_reducible assumption | with_reducible refine Below.setCell ?_ (by first | omega | (simp <;> omega)) _ | with_reducible refine balloc ?_ _ | with_reducible refine Below.drew ?_ | with_reducible refine bstep ?_ (by with_reducible assumption)))
                  have hs_w3 : w2.heap.size ≤ w3.heap.size := hb.size
                  clear hb
                  rw [h4]
                  go_wp2_with fail
                  refine Calls.mono (NX _ (by repeat (first | with_reducible exact Below.refl _ _ | with_reducible assumption | with_reducible refine Below.setCell ?_ (by first | omega | (simp <;> omega)) _ | with_reducible refine balloc ?_ _ | with_reducible refine Below.drew ?_ | with_reducible refine bstep ?_ (by with_reducible assumption)))) ?_
                  rintro e w4 ⟨rfl, hb⟩
                  replace kt0 := cell_later hb kt0
                  replace kt1 := cell_later hb kt1
                  replace kt2 := cell_later hb kt2
                  replace zt : w.heap.size < w4.heap.size := World.block_lt_of_cell? _ _ kt0
                  have zt_w4 := zt
                  replace hb0 : Below w.heap.size w w4 := (by repeat (first | with_reducible exact Below.refl _ _ | with_reducible assumption | with_reducible refine Below.setCell ?_ (by first | omega | (simp <;> omega)) _ | with_reducible refine balloc ?_ _ | with_reducible refine Below.drew ?_ | with_reducible refine bstep ?_ (by with_reducible assumption)))
                  have hs_w4 : w3.heap.size ≤ w4.heap.size := hb.size
                  clear hb
                  go_wp2
                  go_ret
                  exact ⟨rfl, (by repeat (first | with_reducible exact Below.refl _ _ | with_reducible assumption | with_reducible refine Below.setCell ?_ (by first | omega | (simp <;> omega)) _ | with_reducible refine balloc ?_ _ | with_reducible refine Below.drew ?_ | with_reducible refine bstep ?_ (by with_reducible assumption)))⟩
                · by_cases e2 : eo = 0
                  · have lo : a1 < need := by
                      rcases Int.lt_or_le a1 need with h | h
                      · exact h
                      · obtain ⟨v2, hv2, hle⟩ := NO (by omega) e2 h
                        rw [HX.out] at hv2
                        cases hv2
                    subst e2
                    clear NO
                    go_enter Try.func7, Try.ntmps7
                    go_wp2_with fail
                    refine Calls.mono (head_c _) ?_
                    rintro e w1 ⟨rfl, hb⟩
                    have kt0 : w1.cell? ⟨w.heap.size, 0, none⟩ = some (.int .i64 s) := cell_later hb (by go_simp)
                    have kt1 : w1.cell? ⟨w.heap.size, 1, none⟩ = some (.int .i64 p) := cell_later hb (by go_simp)
                    have kt2 : w1.cell? ⟨w.heap.size, 2, none⟩ = some (.slice pp l.length cap) := cell_later hb (by go_simp)
                    have zt : w.heap.size < w1.heap.size := World.block_lt_of_cell? _ _ kt0
                    have zt_w1 := zt
                    have hb0 : Below w.heap.size w w1 := (by repeat (first | with_reducible exact Below.refl _ _ | with_reducible assumption | with_reducible refine Below.setCell ?_ (by first | omega | (simp <;> omega)) _ | with_reducible refine balloc ?_ _ | with_reducible refine Below.drew ?_ | with_reducible refine bstep ?_ (by with_reducible assumption)))
                    have hs_w1 := hb.size; (try simp only [World.size_alloc, World.size_setCell] at hs_w1)
                    clear hb
                    go_wp2_with fail
                    refine Calls.mono (F1 _ (by repeat (first | with_reducible exact Below.refl _ _ | with_reducible assumption | with_reducible refine Below.setCell ?_ (by first | omega | (simp <;> omega)) _ | with_reducible refine balloc ?_ _ | with_reducible refine Below.drew ?_ | with_reducible refine bstep ?_ (by with_reducible assumption)))) ?_
                    rintro e w2 ⟨rfl, hb⟩
                    replace kt0 := cell_later hb kt0
                    replace kt1 := cell_later hb kt1
                    replace kt2 := cell_later hb kt2
                    replace zt : w.heap.size < w2.heap.size := World.block_lt_of_cell? _ _ kt0
                    have zt_w2 := zt
                    replace hb0 : Below w.heap.size w w2 := (by repeat (first | with_reducible exact Below.refl _ _ | with_reducible assumption | with_reducible refine Below.setCell ?_ (by first | omega | (simp <;> omega)) _ | with_reducible refine balloc ?_ _ | with_reducible refine Below.drew ?_ | with_reducible refine bstep ?_ (by with_reducible assumption)))
                    have hs_w2 : w1.heap.size ≤ w2.heap.size := hb.size
                    clear hb
                    go_wp2_with fail
                    refine Calls.mono (rneed_c need _) ?_
                    rintro e wx ⟨rfl, rfl⟩
                    rw [h1]
                    go_wp2_with fail
                    refine Calls.mono (rtime_c f _) ?_
                    rintro e wx ⟨rfl, rfl⟩
                    rw [h2]
                    go_wp2_with fail
                    refine Calls.mono (rtime_c g _) ?_
                    rintro e wx ⟨rfl, rfl⟩
                    rw [h3]
                    go_wp2_with fail
                    refine Calls.mono (V1 _ (by repeat (first | with_reducible exact Below.refl _ _ | with_reducible assumption | with_reducible refine Below.setCell ?_ (by first | omega | (simp <;> omega)) _ | with_reducible refine balloc ?_ _ | with_reducible refine Below.drew ?_ | with_reducible refine bstep ?_ (by with_reducible assumption)))) ?_
                    rintro e w3 ⟨rfl, hb⟩
                    replace kt0 := cell_later hb kt0
                    replace kt1 := cell_later hb kt1
                    replace kt2 := cell_later hb kt2
                    replace zt : w.heap.size < w3.heap.size := World.block_lt_of_cell? _ _ kt0
                    have zt_w3 := zt
                    replace hb0 : Below w.heap.size w w3 := (by repeat (first | with_reducible exact Below.refl _ _ | with_reducible assumption | with_reducible refine Below.setCell ?_ (by first | omega | (simp <;> omega)) _ | with_reducible refine balloc ?_ _ | with_reducible refine Below.drew ?_ | with_reducible refine bstep ?_ (by with_reducible assumption)))
                    have hs_w3 : w2.heap.size ≤ w3.heap.size := hb.size
                    clear hb
                    rw [h4]
                    go_wp2_with fail
                    refine Calls.mono (NX _ (by repeat (first | with_reducible exact Below.refl _ _ | with_reducible assumption | with_reducible refine Below.setCell ?_ (by first | omega | (simp <;> omega)) _ | with_reducible refine balloc ?_ _ | with_reducible refine Below.drew ?_ | with_reducible refine bstep ?_ (by with_reducible assumption)))) ?_
                    rintro e w4 ⟨rfl, hb⟩
                    replace kt0 := cell_later hb kt0
                    replace kt1 := cell_later hb kt1
                    replace kt2 := cell_later hb kt2
                    replace zt : w.heap.size < w4.heap.size := World.block_lt_of_cell? _ _ kt0
                    have zt_w4 := zt
                    replace hb0 : Below w.heap.size w w4 := (by repeat (first | with_reducible exact Below.refl _ _ | with_reducible assumption | with_reducible refine Below.setCell ?_ (by first | omega | (simp <;> omega)) _ | with_reducible refine balloc ?_ _ | with_reducible refine Below.drew ?_ | with_reducible refine bstep ?_ (by with_reducible assumption)))
                    have hs_w4 : w3.heap.size ≤ w4.heap.size := hb.size
                    clear hb
                    go_wp2_with fail
                    refine Calls.mono (HO _ (by repeat (first | with_reducible exact Below.refl _ _ | with_reducible assumption | with_reducible refine Below.setCell ?_ (by first | omega | (simp <;> omega)) _ | with_reducible refine balloc ?_ _ | with_reducible refine Below.drew ?_ | with_reducible refine bstep ?_ (by with_reducible assumption)))) ?_
                    rintro e w5 ⟨rfl, hb⟩
                    replace kt0 := cell_later hb kt0
                    replace kt1 := cell_later hb kt1
                    replace kt2 := cell_later hb kt2
                    replace zt : w.heap.size < w5.heap.size := World.block_lt_of_cell? _ _ kt0
                    have zt_w5 := zt
                    replace hb0 : Below w.heap.size w w5 := (by repeat (first | with_reducible exact Below.refl _ _ | with_reducible assumption | with_reducible refine Below.setCell ?_ (by first | omega | (simp <;> omega)) _ | with_reducible refine balloc ?_ _ | with_reducible refine Below.drew ?_ | with_reducible refine bstep ?_ (by with_reducible assumption)))
                    have hs_w5 : w4.heap.size ≤ w5.heap.size := hb.size
                    clear hb
                    go_wp2
                    go_ret
                    exact ⟨rfl, (by repeat (first | with_reducible exact Below.refl _ _ | with_reducible assumption | with_reducible refine Below.setCell ?_ (by first | omega | (simp <;> omega)) _ | with_reducible refine balloc ?_ _ | with_reducible refine Below.drew ?_ | with_reducible refine bstep ?_ (by with_reducible assumption)))⟩
                  · clear NO
                    go_enter Try.func7, Try.ntmps7
                    go_wp2_with fail
                    refine Calls.mono (head_c _) ?_
                    rintro e w1 ⟨rfl, hb⟩
                    have kt0 : w1.cell? ⟨w.heap.size, 0, none⟩ = some (.int .i64 s) := cell_later hb (by go_simp)
                    have kt1 : w1.cell? ⟨w.heap.size, 1, none⟩ = some (.int .i64 p) := cell_later hb (by go_simp)
                    have kt2 : w1.cell? ⟨w.heap.size, 2, none⟩ = some (.slice pp l.length cap) := cell_later hb (by go_simp)
                    have zt : w.heap.size < w1.heap.size := World.block_lt_of_cell? _ _ kt0
                    have zt_w1 := zt
                    have hb0 : Below w.heap.size w w1 := (by repeat (first | with_reducible exact Below.refl _ _ | with_reducible assumption | with_reducible refine Below.setCell ?_ (by first | omega | (simp <;> omega)) _ | with_reducible refine balloc ?_ _ | with_reducible refine Below.drew ?_ | with_reducible refine bstep ?_ (by with_reducible assumption)))
                    have hs_w1 := hb.size; (try simp only [World.size_alloc, World.size_setCell] at hs_w1)
                    clear hb
                    go_wp2_with fail
                    refine Calls.mono (F1 _ (by repeat (first | with_reducible exact Below.refl _ _ | with_reducible assumption | with_reducible refine Below.setCell ?_ (by first | omega | (simp <;> omega)) _ | with_reducible refine balloc ?_ _ | with_reducible refine Below.drew ?_ | with_reducible refine bstep ?_ (by with_reducible assumption)))) ?_
                    rintro e w2 ⟨rfl, hb⟩
                    replace kt0 := cell_later hb kt0
                    replace kt1 := cell_later hb kt1
                    replace kt2 := cell_later hb kt2
                    replace zt : w.heap.size < w2.heap.size := World.block_lt_of_cell? _ _ kt0
                    have zt_w2 := zt
                    replace hb0 : Below w.heap.size w w2 := (by repeat (first | with_reducible exact Below.refl _ _ | with_reducible assumption | with_reducible refine Below.setCell ?_ (by first | omega | (simp <;> omega)) _ | with_reducible refine balloc ?_ _ | with_reducible refine Below.drew ?_ | with_reducible refine bstep ?_ (by with_reducible assumption)))
                    have hs_w2 : w1.heap.size ≤ w2.heap.size := hb.size
                    clear hb
                    go_wp2_with fail
                    refine Calls.mono (rneed_c need _) ?_
                    rintro e wx ⟨rfl, rfl⟩
                    rw [h1]
                    go_wp2_with fail
                    refine Calls.mono (rtime_c f _) ?_
                    rintro e wx ⟨rfl, rfl⟩
                    rw [h2]
                    go_wp2_with fail
                    refine Calls.mono (rtime_c g _) ?_
                    rintro e wx ⟨rfl, rfl⟩
                    rw [h3]
                    go_wp2_with fail
                    refine Calls.mono (V1 _ (by repeat (first | with_reducible exact Below.refl _ _ | with_reducible assumption | with_reducible refine Below.setCell ?_ (by first | omega | (simp <;> omega)) _ | with_reducible refine balloc ?_ _ | with_reducible refine Below.drew ?_ | with_reducible refine bstep ?_ (by with_reducible assumption)))) ?_
                    rintro e w3 ⟨rfl, hb⟩
                    replace kt0 := cell_later hb kt0
                    replace kt1 := cell_later hb kt1
                    replace kt2 := cell_later hb kt2
                    replace zt : w.heap.size < w3.heap.size := World.block_lt_of_cell? _ _ kt0
                    have zt_w3 := zt
                    replace hb0 : Below w.heap.size w w3 := (by repeat (first | with_reducible exact Below.refl _ _ | with_reducible assumption | with_reducible refine Below.setCell ?_ (by first | omega | (simp <;> omega)) _ | with_reducible refine balloc ?_ _ | with_reducible refine Below.drew ?_ | with_reducible refine bstep ?_ (by with_reducible assumption)))
                    have hs_w3 : w2.heap.size ≤ w3.heap.size := hb.size
                    clear hb
                    rw [h4]
                    go_wp2_with fail
                    refine Calls.mono (NX _ (by repeat (first | with_reducible exact Below.refl _ _ | with_reducible assumption | with_reducible refine Below.setCell ?_ (by first | omega | (simp <;> omega)) _ | with_reducible refine balloc ?_ _ | with_reducible refine Below.drew ?_ | with_reducible refine bstep ?_ (by with_reducible assumption)))) ?_
                    rintro e w4 ⟨rfl, hb⟩
                    replace kt0 := cell_later hb kt0
                    replace kt1 := cell_later hb kt1
                    replace kt2 := cell_later hb kt2
                    replace zt : w.heap.size < w4.heap.size := World.block_lt_of_cell? _ _ kt0
                    have zt_w4 := zt
                    replace hb0 : Below w.heap.size w w4 := (by repeat (first | with_reducible exact Below.refl _ _ | with_reducible assumption | with_reducible refine Below.setCell ?_ (by first | omega | (simp <;> omega)) _ | with_reducible refine balloc ?_ _ | with_reducible refine Below.drew ?_ | with_reducible refine bstep ?_ (by with_reducible assumption)))
                    have hs_w4 : w3.heap.size ≤ w4.heap.size := hb.size
                    clear hb
                    go_wp2_with fail
                    refine Calls.mono (HO _ (by repeat (first | with_reducible exact Below.refl _ _ | with_reducible assumption | with_reducible refine Below.setCell ?_ (by first | omega | (simp <;> omega)) _ | with_reducible refine balloc ?_ _ | with_reducible refine Below.drew ?_ | with_reducible refine bstep ?_ (by with_reducible assumption)))) ?_
                    rintro e w5 ⟨rfl, hb⟩
                    replace kt0 := cell_later hb kt0
                    replace kt1 := cell_later hb kt1
                    replace kt2 := cell_later hb kt2
                    replace zt : w.heap.size < w5.heap.size := World.block_lt_of_cell? _ _ kt0
                    have zt_w5 := zt
                    replace hb0 : Below w.heap.size w w5 := (by repeat (first | with_reducible exact Below.refl _ _ | with_reducible assumption | with_reducible refine Below.setCell ?_ (by first | omega | (simp <;> omega)) _ | with_reducible refine balloc ?_ _ | with_reducible refine Below.drew ?_ | with_reducible refine bstep ?_ (by with_reducible assumption)))
                    have hs_w5 : w4.heap.size ≤ w5.heap.size := hb.size
                    clear hb
                    go_wp2
                    go_ret
                    exact ⟨rfl, (by repeat (first | with_reducible exact Below.refl _ _ | with_reducible assumption | with_reducible refine Below.setCell ?_ (by first | omega | (simp <;> omega)) _ | with_reducible refine balloc ?_ _ | with_reducible refine Below.drew ?_ | with_reducible refine bstep ?_ (by with_reducible assumption)))⟩
            · rw [hnx] at he0 hv0
              have HX := Lib.hid hnx
              simp only [Option.isSome, erv, cond] at he0 hv0
              rw [he0, hv0] at NX
              obtain ⟨x1, x2, x3, x4, x5⟩ := next_yes h4 f1 g1 hnx
              have HY := fun W h => HH (max f v.1) (max f v.1 + g) W h
              rw [x1] at HY
              generalize hV s p l (max f v.1) (max f v.1 + g) = b at *
              obtain ⟨b1, b2⟩ := b
              dsimp only at x2 HY
              generalize hx : max f v.1 = x at *
              have HXV := Lib.hid hx
              clear hx hnx he0 hv0 HH x1
              by_cases o1 : o < f
              · go_enter Try.func7, Try.ntmps7
                go_wp2_with fail
                refine Calls.mono (head_c _) ?_
                rintro e w1 ⟨rfl, hb⟩
                have kt0 : w1.cell? ⟨w.heap.size, 0, none⟩ = some (.int .i64 s) := cell_later hb (by go_simp)
                have kt1 : w1.cell? ⟨w.heap.size, 1, none⟩ = some (.int .i64 p) := cell_later hb (by go_simp)
                have kt2 : w1.cell? ⟨w.heap.size, 2, none⟩ = some (.slice pp l.length cap) := cell_later hb (by go_simp)
                have zt : w.heap.size < w1.heap.size := World.block_lt_of_cell? _ _ kt0
                have zt_w1 := zt
                have hb0 : Below w.heap.size w w1 := (by repeat (first | with_reducible exact Below.refl _ _ | with_reducible assumption | with_reducible refine Below.setCell ?_ (by first | omega | (simp <;> omega)) _ | with_reducible refine balloc ?_ _ | with_reducible refine Below.drew ?_ | with_reducible refine bstep ?_ (by with_reducible assumption)))
                have hs_w1 := hb.size; (try simp only [World.size_alloc, World.size_setCell] at hs_w1)
                clear hb
                go_wp2_with fail
                refine Calls.mono (F1 _ (by repeat (first | with_reducible exact Below.refl _ _ | with_reducible assumption | with_reducible refine Below.setCell ?_ (by first | omega | (simp <;> omega)) _ | with_reducible refine balloc ?_ _ | with_reducible refine Below.drew ?_ | with_reducible refine bstep ?_ (by with_reducible assumption)))) ?_
                rintro e w2 ⟨rfl, hb⟩
                replace kt0 := cell_later hb kt0
                replace kt1 := cell_later hb kt1
                replace kt2 := cell_later hb kt2
                replace zt : w.heap.size < w2.heap.size := World.block_lt_of_cell? _ _ kt0
                have zt_w2 := zt
                replace hb0 : Below w.heap.size w w2 := (by repeat (first | with_reducible exact Below.refl _ _ | with_reducible assumption | with_reducible refine Below.setCell ?_ (by first | omega | (simp <;> omega)) _ | with_reducible refine balloc ?_ _ | with_reducible refine Below.drew ?_ | with_reducible refine bstep ?_ (by with_reducible assumption)))
                have hs_w2 : w1.heap.size ≤ w2.heap.size := hb.size
                clear hb
                go_wp2_with fail
                refine Calls.mono (rneed_c need _) ?_
                rintro e wx ⟨rfl, rfl⟩
                rw [h1]
                go_wp2_with fail
                refine Calls.mono (rtime_c f _) ?_
                rintro e wx ⟨rfl, rfl⟩
                rw [h2]
                go_wp2_with fail
                refine Calls.mono (rtime_c g _) ?_
                rintro e wx ⟨rfl, rfl⟩
                rw [h3]
                go_wp2_with fail
                refine Calls.mono (V1 _ (by repeat (first | with_reducible exact Below.refl _ _ | with_reducible assumption | with_reducible refine Below.setCell ?_ (by first | omega | (simp <;> omega)) _ | with_reducible refine balloc ?_ _ | with_reducible refine Below.drew ?_ | with_reducible refine bstep ?_ (by with_reducible assumption)))) ?_
                rintro e w3 ⟨rfl, hb⟩
                replace kt0 := cell_later hb kt0
                replace kt1 := cell_later hb kt1
                replace kt2 := cell_later hb kt2
                replace zt : w.heap.size < w3.heap.size := World.block_lt_of_cell? _ _ kt0
                have zt_w3 := zt
                replace hb0 : Below w.heap.size w w3 := (by repeat (first | with_reducible exact Below.refl _ _ | with_reducible assumption | with_reducible refine Below.setCell ?_ (by first | omega | (simp <;> omega)) _ | with_reducible refine balloc ?_ _ | with_reducible refine Below.drew ?_ | with_reducible refine bstep ?_ (by with_reducible assumption)))
                have hs_w3 : w2.heap.size ≤ w3.heap.size := hb.size
                clear hb
                rw [h4]
                go_wp2_with fail
                refine Calls.mono (NX _ (by repeat (first | with_reducible exact Below.refl _ _ | with_reducible assumption | with_reducible refine Below.setCell ?_ (by first | omega | (simp <;> omega)) _ | with_reducible refine balloc ?_ _ | with_reducible refine Below.drew ?_ | with_reducible refine bstep ?_ (by with_reducible assumption)))) ?_
                rintro e w4 ⟨rfl, hb⟩
                replace kt0 := cell_later hb kt0
                replace kt1 := cell_later hb kt1
                replace kt2 := cell_later hb kt2
                replace zt : w.heap.size < w4.heap.size := World.block_lt_of_cell? _ _ kt0
                have zt_w4 := zt
                replace hb0 : Below w.heap.size w w4 := (by repeat (first | with_reducible exact Below.refl _ _ | with_reducible assumption | with_reducible refine Below.setCell ?_ (by first | omega | (simp <;> omega)) _ | with_reducible refine balloc ?_ _ | with_reducible refine Below.drew ?_ | with_reducible refine bstep ?_ (by with_reducible assumption)))
                have hs_w4 : w3.heap.size ≤ w4.heap.size := hb.size
                clear hb
                go_wp2_with fail
                refine Calls.mono (HY _ (by repeat (first | with_reducible exact Below.refl _ _ | with_reducible assumption | with_reducible refine Below.setCell ?_ (by first | omega | (simp <;> omega)) _ | with_reducible refine balloc ?_ _ | with_reducible refine Below.drew ?_ | with_reducible refine bstep ?_ (by with_reducible assumption)))) ?_
                rintro e w5 ⟨rfl, hb⟩
                replace kt0 := cell_later hb kt0
                replace kt1 := cell_later hb kt1
                replace kt2 := cell_later hb kt2
                replace zt : w.heap.size < w5.heap.size := World.block_lt_of_cell? _ _ kt0
                have zt_w5 := zt
                replace hb0 : Below w.heap.size w w5 := (by repeat (first | with_reducible exact Below.refl _ _ | with_reducible assumption | with_reducible refine Below.setCell ?_ (by first | omega | (simp <;> omega)) _ | with_reducible refine balloc ?_ _ | with_reducible refine Below.drew ?_ | with_reducible refine bstep ?_ (by with_reducible assumption)))
                have hs_w5 : w4.heap.size ≤ w5.heap.size := hb.size
                clear hb
                go_wp2
                go_ret
                exact ⟨rfl, (by repeat (first | with_reducible exact Below.refl _ _ | with_reducible assumption | with_reducible refine Below.setCell ?_ (by first | omega | (simp <;> omega)) _ | with_reducible refine balloc ?_ _ | with_reducible refine Below.drew ?_ | with_reducible refine bstep ?_ (by with_reducible assumption)))⟩
              · by_cases o2 : 10000000 - g < o
                · go_enter Try.func7, Try.ntmps7
                  go_wp2_with fail
                  refine Calls.mono (head_c _) ?_
                  rintro e w1 ⟨rfl, hb⟩
                  have kt0 : w1.cell? ⟨w.heap.size, 0, none⟩ = some (.int .i64 s) := cell_later hb (by go_simp)
                  have kt1 : w1.cell? ⟨w.heap.size, 1, none⟩ = some (.int .i64 p) := cell_later hb (by go_simp)
                  have kt2 : w1.cell? ⟨w.heap.size, 2, none⟩ = some (.slice pp l.length cap) := cell_later hb (by go_simp)
                  have zt : w.heap.size < w1.heap.size := World.block_lt_of_cell? _ _ kt0
                  have zt_w1 := zt
                  have hb0 : Below w.heap.size w w1 := (by repeat (first | with_reducible exact Below.refl _ _ | with_reducible assumption | with_reducible refine Below.setCell ?_ (by first | omega | (simp <;> omega)) _ | with_reducible refine balloc ?_ _ | with_reducible refine Below.drew ?_ | with_reducible refine bstep ?_ (by with_reducible assumption)))
                  have hs_w1 := hb.size; (try simp only [World.size_alloc, World.size_setCell] at hs_w1)
                  clear hb
                  go_wp2_with fail
                  refine Calls.mono (F1 _ (by repeat (first | with_reducible exact Below.refl _ _ | with_reducible assumption | with_reducible refine Below.setCell ?_ (by first | omega | (simp <;> omega)) _ | with_reducible refine balloc ?_ _ | with_reducible refine Below.drew ?_ | with_reducible refine bstep ?_ (by with_reducible assumption)))) ?_
                  rintro e w2 ⟨rfl, hb⟩
                  replace kt0 := cell_later hb kt0
                  replace kt1 := cell_later hb kt1
                  replace kt2 := cell_later hb kt2
                  replace zt : w.heap.size < w2.heap.size := World.block_lt_of_cell? _ _ kt0
                  have zt_w2 := zt
                  replace hb0 : Below w.heap.size w w2 := (by repeat (first | with_reducible exact Below.refl _ _ | with_reducible assumption | with_reducible refine Below.setCell ?_ (by first | omega | (simp <;> omega)) _ | with_reducible refine balloc ?_ _ | with_reducible refine Below.drew ?_ | with_reducible refine bstep ?_ (by with_reducible assumption)))
                  have hs_w2 : w1.heap.size ≤ w2.heap.size := hb.size
                  clear hb
                  go_wp2_with fail
                  refine Calls.mono (rneed_c need _) ?_
                  rintro e wx ⟨rfl, rfl⟩
                  rw [h1]
                  go_wp2_with fail
                  refine Calls.mono (rtime_c f _) ?_
                  rintro e wx ⟨rfl, rfl⟩
                  rw [h2]
                  go_wp2_with fail
                  refine Calls.mono (rtime_c g _) ?_
                  rintro e wx ⟨rfl, rfl⟩
                  rw [h3]
                  go_wp2_with fail
                  refine Calls.mono (V1 _ (by repeat (first | with_reducible exact Below.refl _ _ | with_reducible assumption | with_reducible refine Below.setCell ?_ (by first | omega | (simp <;> omega)) _ | with_reducible refine balloc ?_ _ | with_reducible refine Below.drew ?_ | with_reducible refine bstep ?_ (by with_reducible assumption)))) ?_
                  rintro e w3 ⟨rfl, hb⟩
                  replace kt0 := cell_later hb kt0
                  replace kt1 := cell_later hb kt1
                  replace kt2 := cell_later hb kt2
                  replace zt : w.heap.size < w3.heap.size := World.block_lt_of_cell? _ _ kt0
                  have zt_w3 := zt
                  replace hb0 : Below w.heap.size w w3 := (by repeat (first | with_reducible exact Below.refl _ _ | with_reducible assumption | with_reducible refine Below.setCell ?_ (by first | omega | (simp <;> omega)) _ | with_reducible refine balloc ?_ _ | with_reducible refine Below.drew ?_ | with_reducible refine bstep ?_ (by with_reducible assumption)))
                  have hs_w3 : w2.heap.size ≤ w3.heap.size := hb.size
                  clear hb
                  rw [h4]
                  go_wp2_with fail
                  refine Calls.mono (NX _ (by repeat (first | with_reducible exact Below.refl _ _ | with_reducible assumption | with_reducible refine Below.setCell ?_ (by first | omega | (simp <;> omega)) _ | with_reducible refine balloc ?_ _ | with_reducible refine Below.drew ?_ | with_reducible refine bstep ?_ (by with_reducible assumption)))) ?_
                  rintro e w4 ⟨rfl, hb⟩
                  replace kt0 := cell_later hb kt0
                  replace kt1 := cell_later hb kt1
                  replace kt2 := cell_later hb kt2
                  replace zt : w.heap.size < w4.heap.size := World.block_lt_of_cell? _ _ kt0
                  have zt_w4 := zt
                  replace hb0 : Below w.heap.size w w4 := (by repeat (first | with_reducible exact Below.refl _ _ | with_reducible assumption | with_reducible refine Below.setCell ?_ (by first | omega | (simp <;> omega)) _ | with_reducible refine balloc ?_ _ | with_reducible refine Below.drew ?_ | with_reducible refine bstep ?_ (by with_reducible assumption)))
                  have hs_w4 : w3.heap.size ≤ w4.heap.size := hb.size
                  clear hb
                  go_wp2_with fail
                  refine Calls.mono (HY _ (by repeat (first | with_reducible exact Below.refl _ _ | with_reducible assumption | with_reducible refine Below.setCell ?_ (by first | omega | (simp <;> omega)) _ | with_reducible refine balloc ?_ _ | with_reducible refine Below.drew ?_ | with_reducible refine bstep ?_ (by with_reducible assumption)))) ?_
                  rintro e w5 ⟨rfl, hb⟩
                  replace kt0 := cell_later hb kt0
                  replace kt1 := cell_later hb kt1
                  replace kt2 := cell_later hb kt2
                  replace zt : w.heap.size < w5.heap.size := World.block_lt_of_cell? _ _ kt0
                  have zt_w5 := zt
                  replace hb0 : Below w.heap.size w w5 := (by repeat (first | with_reducible exact Below.refl _ _ | with_reducible assumption | with_reducible refine Below.setCell ?_ (by first | omega | (simp <;> omega)) _ | with_reducible refine balloc ?_ _ | with_reducible refine Below.drew ?_ | with_reducible refine bstep ?_ (by with_reducible assumption)))
                  have hs_w5 : w4.heap.size ≤ w5.heap.size := hb.size
                  clear hb
                  go_wp2
                  go_ret
                  exact ⟨rfl, (by repeat (first | with_reducible exact Below.refl _ _ | with_reducible assumption | with_reducible refine Below.setCell ?_ (by first | omega | (simp <;> omega)) _ | with_reducible refine balloc ?_ _ | with_reducible refine Below.drew ?_ | with_reducible refine bstep ?_ (by with_reducible assumption)))⟩
                · by_cases o3 : x ≤ o
                  · go_enter Try.func7, Try.ntmps7
                    go_wp2_with fail
                    refine Calls.mono (head_c _) ?_
                    rintro e w1 ⟨rfl, hb⟩
                    have kt0 : w1.cell? ⟨w.heap.size, 0, none⟩ = some (.int .i64 s) := cell_later hb (by go_simp)
                    have kt1 : w1.cell? ⟨w.heap.size, 1, none⟩ = some (.int .i64 p) := cell_later hb (by go_simp)
                    have kt2 : w1.cell? ⟨w.heap.size, 2, none⟩ = some (.slice pp l.length cap) := cell_later hb (by go_simp)
                    have zt : w.heap.size < w1.heap.size := World.block_lt_of_cell? _ _ kt0
                    have zt_w1 := zt
                    have hb0 : Below w.heap.size w w1 := (by repeat (first | with_reducible exact Below.refl _ _ | with_reducible assumption | with_reducible refine Below.setCell ?_ (by first | omega | (simp <;> omega)) _ | with_reducible refine balloc ?_ _ | with_reducible refine Below.drew ?_ | with_reducible refine bstep ?_ (by with_reducible assumption)))
                    have hs_w1 := hb.size; (try simp only [World.size_alloc, World.size_setCell] at hs_w1)
                    clear hb
                    go_wp2_with fail
                    refine Calls.mono (F1 _ (by repeat (first | with_reducible exact Below.refl _ _ | with_reducible assumption | with_reducible refine Below.setCell ?_ (by first | omega | (simp <;> omega)) _ | with_reducible refine balloc ?_ _ | with_reducible refine Below.drew ?_ | with_reducible refine bstep ?_ (by with_reducible assumption)))) ?_
                    rintro e w2 ⟨rfl, hb⟩
                    replace kt0 := cell_later hb kt0
                    replace kt1 := cell_later hb kt1
                    replace kt2 := cell_later hb kt2
                    replace zt : w.heap.size < w2.heap.size := World.block_lt_of_cell? _ _ kt0
                    have zt_w2 := zt
                    replace hb0 : Below w.heap.size w w2 := (by repeat (first | with_reducible exact Below.refl _ _ | with_reducible assumption | with_reducible refine Below.setCell ?_ (by first | omega | (simp <;> omega)) _ | with_reducible refine balloc ?_ _ | with_reducible refine Below.drew ?_ | with_reducible refine bstep ?_ (by with_reducible assumption)))
                    have hs_w2 : w1.heap.size ≤ w2.heap.size := hb.size
                    clear hb
                    go_wp2_with fail
                    refine Calls.mono (rneed_c need _) ?_
                    rintro e wx ⟨rfl, rfl⟩
                    rw [h1]
                    go_wp2_with fail
                    refine Calls.mono (rtime_c f _) ?_
                    rintro e wx ⟨rfl, rfl⟩
                    rw [h2]
                    go_wp2_with fail
                    refine Calls.mono (rtime_c g _) ?_
                    rintro e wx ⟨rfl, rfl⟩
                    rw [h3]
                    go_wp2_with fail
                    refine Calls.mono (V1 _ (by repeat (first | with_reducible exact Below.refl _ _ | with_reducible assumption | with_reducible refine Below.setCell ?_ (by first | omega | (simp <;> omega)) _ | with_reducible refine balloc ?_ _ | with_reducible refine Below.drew ?_ | with_reducible refine bstep ?_ (by with_reducible assumption)))) ?_
                    rintro e w3 ⟨rfl, hb⟩
                    replace kt0 := cell_later hb kt0
                    replace kt1 := cell_later hb kt1
                    replace kt2 := cell_later hb kt2
                    replace zt : w.heap.size < w3.heap.size := World.block_lt_of_cell? _ _ kt0
                    have zt_w3 := zt
                    replace hb0 : Below w.heap.size w w3 := (by repeat (first | with_reducible exact Below.refl _ _ | with_reducible assumption | with_reducible refine Below.setCell ?_ (by first | omega | (simp <;> omega)) _ | with_reducible refine balloc ?_ _ | with_reducible refine Below.drew ?_ | with_reducible refine bstep ?_ (by with_reducible assumption)))
                    have hs_w3 : w2.heap.size ≤ w3.heap.size := hb.size
                    clear hb
                    rw [h4]
                    go_wp2_with fail
                    refine Calls.mono (NX _ (by repeat (first | with_reducible exact Below.refl _ _ | with_reducible assumption | with_reducible refine Below.setCell ?_ (by first | omega | (simp <;> omega)) _ | with_reducible refine balloc ?_ _ | with_reducible refine Below.drew ?_ | with_reducible refine bstep ?_ (by with_reducible assumption)))) ?_
                    rintro e w4 ⟨rfl, hb⟩
                    replace kt0 := cell_later hb kt0
                    replace kt1 := cell_later hb kt1
                    replace kt2 := cell_later hb kt2
                    replace zt : w.heap.size < w4.heap.size := World.block_lt_of_cell? _ _ kt0
                    have zt_w4 := zt
                    replace hb0 : Below w.heap.size w w4 := (by repeat (first | with_reducible exact Below.refl _ _ | with_reducible assumption | with_reducible refine Below.setCell ?_ (by first | omega | (simp <;> omega)) _ | with_reducible refine balloc ?_ _ | with_reducible refine Below.drew ?_ | with_reducible refine bstep ?_ (by with_reducible assumption)))
                    have hs_w4 : w3.heap.size ≤ w4.heap.size := hb.size
                    clear hb
                    go_wp2_with fail
                    refine Calls.mono (HY _ (by repeat (first | with_reducible exact Below.refl _ _ | with_reducible assumption | with_reducible refine Below.setCell ?_ (by first | omega | (simp <;> omega)) _ | with_reducible refine balloc ?_ _ | with_reducible refine Below.drew ?_ | with_reducible refine bstep ?_ (by with_reducible assumption)))) ?_
                    rintro e w5 ⟨rfl, hb⟩
                    replace kt0 := cell_later hb kt0
                    replace kt1 := cell_later hb kt1
                    replace kt2 := cell_later hb kt2
                    replace zt : w.heap.size < w5.heap.size := World.block_lt_of_cell? _ _ kt0
                    have zt_w5 := zt
                    replace hb0 : Below w.heap.size w w5 := (by repeat (first | with_reducible exact Below.refl _ _ | with_reducible assumption | with_reducible refine Below.setCell ?_ (by first | omega | (simp <;> omega)) _ | with_reducible refine balloc ?_ _ | with_reducible refine Below.drew ?_ | with_reducible refine bstep ?_ (by with_reducible assumption)))
                    have hs_w5 : w4.heap.size ≤ w5.heap.size := hb.size
                    clear hb
                    go_wp2
                    go_ret
                    exact ⟨rfl, (by repeat (first | with_reducible exact Below.refl _ _ | with_reducible assumption | with_reducible refine Below.setCell ?_ (by first | omega | (simp <;> omega)) _ | with_reducible refine balloc ?_ _ | with_reducible refine Below.drew ?_ | with_reducible refine bstep ?_ (by with_reducible assumption)))⟩
                  · by_cases e2 : eo = 0
                    · have lo : a1 < need := by
                        rcases Int.lt_or_le a1 need with h | h
                        · exact h
                        · obtain ⟨v2, hv2, hle⟩ := NO (by omega) e2 h
                          rw [HX.out] at hv2
                          cases hv2
                          have := HXV.out
                          omega
                      subst e2
                      clear NO
                      go_enter Try.func7, Try.ntmps7
                      go_wp2_with fail
                      refine Calls.mono (head_c _) ?_
                      rintro e w1 ⟨rfl, hb⟩
                      have kt0 : w1.cell? ⟨w.heap.size, 0, none⟩ = some (.int .i64 s) := cell_later hb (by go_simp)
                      have kt1 : w1.cell? ⟨w.heap.size, 1, none⟩ = some (.int .i64 p) := cell_later hb (by go_simp)
                      have kt2 : w1.cell? ⟨w.heap.size, 2, none⟩ = some (.slice pp l.length cap) := cell_later hb (by go_simp)
                      have zt : w.heap.size < w1.heap.size := World.block_lt_of_cell? _ _ kt0
                      have zt_w1 := zt
                      have hb0 : Below w.heap.size w w1 := (by repeat (first | with_reducible exact Below.refl _ _ | with_reducible assumption | with_reducible refine Below.setCell ?_ (by first | omega | (simp <;> omega)) _ | with_reducible refine balloc ?_ _ | with_reducible refine Below.drew ?_ | with_reducible refine bstep ?_ (by with_reducible assumption)))
                      have hs_w1 := hb.size; (try simp only [World.size_alloc, World.size_setCell] at hs_w1)
                      clear hb
                      go_wp2_with fail
                      refine Calls.mono (F1 _ (by repeat (first | with_reducible exact Below.refl _ _ | with_reducible assumption | with_reducible refine Below.setCell ?_ (by first | omega | (simp <;> omega)) _ | with_reducible refine balloc ?_ _ | with_reducible refine Below.drew ?_ | with_reducible refine bstep ?_ (by with_reducible assumption)))) ?_
                      rintro e w2 ⟨rfl, hb⟩
                      replace kt0 := cell_later hb kt0
                      replace kt1 := cell_later hb kt1
                      replace kt2 := cell_later hb kt2
                      replace zt : w.heap.size < w2.heap.size := World.block_lt_of_cell? _ _ kt0
                      have zt_w2 := zt
                      replace hb0 : Below w.heap.size w w2 := (by repeat (first | with_reducible exact Below.refl _ _ | with_reducible assumption | with_reducible refine Below.setCell ?_ (by first | omega | (simp <;> omega)) _ | with_reducible refine balloc ?_ _ | with_reducible refine Below.drew ?_ | with_reducible refine bstep ?_ (by with_reducible assumption)))
                      have hs_w2 : w1.heap.size ≤ w2.heap.size := hb.size
                      clear hb
                      go_wp2_with fail
                      refine Calls.mono (rneed_c need _) ?_
                      rintro e wx ⟨rfl, rfl⟩
                      rw [h1]
                      go_wp2_with fail
                      refine Calls.mono (rtime_c f _) ?_
                      rintro e wx ⟨rfl, rfl⟩
                      rw [h2]
                      go_wp2_with fail
                      refine Calls.mono (rtime_c g _) ?_
                      rintro e wx ⟨rfl, rfl⟩
                      rw [h3]
                      go_wp2_with fail
                      refine Calls.mono (V1 _ (by repeat (first | with_reducible exact Below.refl _ _ | with_reducible assumption | with_reducible refine Below.setCell ?_ (by first | omega | (simp <;> omega)) _ | with_reducible refine balloc ?_ _ | with_reducible refine Below.drew ?_ | with_reducible refine bstep ?_ (by with_reducible assumption)))) ?_
                      rintro e w3 ⟨rfl, hb⟩
                      replace kt0 := cell_later hb kt0
                      replace kt1 := cell_later hb kt1
                      replace kt2 := cell_later hb kt2
                      replace zt : w.heap.size < w3.heap.size := World.block_lt_of_cell? _ _ kt0
                      have zt_w3 := zt
                      replace hb0 : Below w.heap.size w w3 := (by repeat (first | with_reducible exact Below.refl _ _ | with_reducible assumption | with_reducible refine Below.setCell ?_ (by first | omega | (simp <;> omega)) _ | with_reducible refine balloc ?_ _ | with_reducible refine Below.drew ?_ | with_reducible refine bstep ?_ (by with_reducible assumption)))
                      have hs_w3 : w2.heap.size ≤ w3.heap.size := hb.size
                      clear hb
                      rw [h4]
                      go_wp2_with fail
                      refine Calls.mono (NX _ (by repeat (first | with_reducible exact Below.refl _ _ | with_reducible assumption | with_reducible refine Below.setCell ?_ (by first | omega | (simp <;> omega)) _ | with_reducible refine balloc ?_ _ | with_reducible refine Below.drew ?_ | with_reducible refine bstep ?_ (by with_reducible assumption)))) ?_
                      rintro e w4 ⟨rfl, hb⟩
                      replace kt0 := cell_later hb kt0
                      replace kt1 := cell_later hb kt1
                      replace kt2 := cell_later hb kt2
                      replace zt : w.heap.size < w4.heap.size := World.block_lt_of_cell? _ _ kt0
                      have zt_w4 := zt
                      replace hb0 : Below w.heap.size w w4 := (by repeat (first | with_reducible exact Below.refl _ _ | with_reducible assumption | with_reducible refine Below.setCell ?_ (by first | omega | (simp <;> omega)) _ | with_reducible refine balloc ?_ _ | with_reducible refine Below.drew ?_ | with_reducible refine bstep ?_ (by with_reducible assumption)))
                      have hs_w4 : w3.heap.size ≤ w4.heap.size := hb.size
                      clear hb
                      go_wp2_with fail
                      refine Calls.mono (HY _ (by repeat (first | with_reducible exact Below.refl _ _ | with_reducible assumption | with_reducible refine Below.setCell ?_ (by first | omega | (simp <;> omega)) _ | with_reducible refine balloc ?_ _ | with_reducible refine Below.drew ?_ | with_reducible refine bstep ?_ (by with_reducible assumption)))) ?_
                      rintro e w5 ⟨rfl, hb⟩
                      replace kt0 := cell_later hb kt0
                      replace kt1 := cell_later hb kt1
                      replace kt2 := cell_later hb kt2
                      replace zt : w.heap.size < w5.heap.size := World.block_lt_of_cell? _ _ kt0
                      have zt_w5 := zt
                      replace hb0 : Below w.heap.size w w5 := (by repeat (first | with_reducible exact Below.refl _ _ | with_reducible assumption | with_reducible refine Below.setCell ?_ (by first | omega | (simp <;> omega)) _ | with_reducible refine balloc ?_ _ | with_reducible refine Below.drew ?_ | with_reducible refine bstep ?_ (by with_reducible assumption)))
                      have hs_w5 : w4.heap.size ≤ w5.heap.size := hb.size
                      clear hb
                      go_wp2_with fail
                      refine Calls.mono (HO _ (by repeat (first | with_reducible exact Below.refl _ _ | with_reducible assumption | with_reducible refine Below.setCell ?_ (by first | omega | (simp <;> omega)) _ | with_reducible refine balloc ?_ _ | with_reducible refine Below.drew ?_ | with_reducible refine bstep ?_ (by with_reducible assumption)))) ?_
                      rintro e w6 ⟨rfl, hb⟩
                      replace kt0 := cell_later hb (cell_al _ kt0)
                      replace kt1 := cell_later hb (cell_al _ kt1)
                      replace kt2 := cell_later hb (cell_al _ kt2)
                      have kb0 : w6.cell? ⟨w5.heap.size, 0, none⟩ = some (.int .i64 b1) := cell_later hb (by go_simp)
                      have kb1 : w6.cell? ⟨w5.heap.size, 1, none⟩ = some (.int .i64 b2) := cell_later hb (by go_simp)
                      replace zt : w.heap.size < w6.heap.size := World.block_lt_of_cell? _ _ kt0
                      have zt_w6 := zt
                      have zb : w5.heap.size < w6.heap.size := World.block_lt_of_cell? _ _ kb0
                      have zb_w6 := zb
                      replace hb0 : Below w.heap.size w w6 := (by repeat (first | with_reducible exact Below.refl _ _ | with_reducible assumption | with_reducible refine Below.setCell ?_ (by first | omega | (simp <;> omega)) _ | with_reducible refine balloc ?_ _ | with_reducible refine Below.drew ?_ | with_reducible refine bstep ?_ (by with_reducible assumption)))
                      have hs_w6 := hb.size; (try simp only [World.size_alloc, World.size_setCell] at hs_w6)
                      clear hb
                      go_wp2
                      go_ret
                      exact ⟨rfl, (by repeat (first | with_reducible exact Below.refl _ _ | with_reducible assumption | with_reducible refine Below.setCell ?_ (by first | omega | (simp <;> omega)) _ | with_reducible refine balloc ?_ _ | with_reducible refine Below.drew ?_ | with_reducible refine bstep ?_ (by with_reducible assumption)))⟩
                    · clear NO
                      go_enter Try.func7, Try.ntmps7
                      go_wp2_with fail
                      refine Calls.mono (head_c _) ?_
                      rintro e w1 ⟨rfl, hb⟩
                      have kt0 : w1.cell? ⟨w.heap.size, 0, none⟩ = some (.int .i64 s) := cell_later hb (by go_simp)
                      have kt1 : w1.cell? ⟨w.heap.size, 1, none⟩ = some (.int .i64 p) := cell_later hb (by go_simp)
                      have kt2 : w1.cell? ⟨w.heap.size, 2, none⟩ = some (.slice pp l.length cap) := cell_later hb (by go_simp)
                      have zt : w.heap.size < w1.heap.size := World.block_lt_of_cell? _ _ kt0
                      have zt_w1 := zt
                      have hb0 : Below w.heap.size w w1 := (by repeat (first | with_reducible exact Below.refl _ _ | with_reducible assumption | with_reducible refine Below.setCell ?_ (by first | omega | (simp <;> omega)) _ | with_reducible refine balloc ?_ _ | with_reducible refine Below.drew ?_ | with_reducible refine bstep ?_ (by with_reducible assumption)))
                      have hs_w1 := hb.size; (try simp only [World.size_alloc, World.size_setCell] at hs_w1)
                      clear hb
                      go_wp2_with fail
                      refine Calls.mono (F1 _ (by repeat (first | with_reducible exact Below.refl _ _ | with_reducible assumption | with_reducible refine Below.setCell ?_ (by first | omega | (simp <;> omega)) _ | with_reducible refine balloc ?_ _ | with_reducible refine Below.drew ?_ | with_reducible refine bstep ?_ (by with_reducible assumption)))) ?_
                      rintro e w2 ⟨rfl, hb⟩
                      replace kt0 := cell_later hb kt0
                      replace kt1 := cell_later hb kt1
                      replace kt2 := cell_later hb kt2
                      replace zt : w.heap.size < w2.heap.size := World.block_lt_of_cell? _ _ kt0
                      have zt_w2 := zt
                      replace hb0 : Below w.heap.size w w2 := (by repeat (first | with_reducible exact Below.refl _ _ | with_reducible assumption | with_reducible refine Below.setCell ?_ (by first | omega | (simp <;> omega)) _ | with_reducible refine balloc ?_ _ | with_reducible refine Below.drew ?_ | with_reducible refine bstep ?_ (by with_reducible assumption)))
                      have hs_w2 : w1.heap.size ≤ w2.heap.size := hb.size
                      clear hb
                      go_wp2_with fail
                      refine Calls.mono (rneed_c need _) ?_
                      rintro e wx ⟨rfl, rfl⟩
                      rw [h1]
                      go_wp2_with fail
                      refine Calls.mono (rtime_c f _) ?_
                      rintro e wx ⟨rfl, rfl⟩
                      rw [h2]
                      go_wp2_with fail
                      refine Calls.mono (rtime_c g _) ?_
                      rintro e wx ⟨rfl, rfl⟩
                      rw [h3]
                      go_wp2_with fail
                      refine Calls.mono (V1 _ (by repeat (first | with_reducible exact Below.refl _ _ | with_reducible assumption | with_reducible refine Below.setCell ?_ (by first | omega | (simp <;> omega)) _ | with_reducible refine balloc ?_ _ | with_reducible refine Below.drew ?_ | with_reducible refine bstep ?_ (by with_reducible assumption)))) ?_
                      rintro e w3 ⟨rfl, hb⟩
                      replace kt0 := cell_later hb kt0
                      replace kt1 := cell_later hb kt1
                      replace kt2 := cell_later hb kt2
                      replace zt : w.heap.size < w3.heap.size := World.block_lt_of_cell? _ _ kt0
                      have zt_w3 := zt
                      replace hb0 : Below w.heap.size w w3 := (by repeat (first | with_reducible exact Below.refl _ _ | with_reducible assumption | with_reducible refine Below.setCell ?_ (by first | omega | (simp <;> omega)) _ | with_reducible refine balloc ?_ _ | with_reducible refine Below.drew ?_ | with_reducible refine bstep ?_ (by with_reducible assumption)))
                      have hs_w3 : w2.heap.size ≤ w3.heap.size := hb.size
                      clear hb
                      rw [h4]
                      go_wp2_with fail
                      refine Calls.mono (NX _ (by repeat (first | with_reducible exact Below.refl _ _ | with_reducible assumption | with_reducible refine Below.setCell ?_ (by first | omega | (simp <;> omega)) _ | with_reducible refine balloc ?_ _ | with_reducible refine Below.drew ?_ | with_reducible refine bstep ?_ (by with_reducible assumption)))) ?_
                      rintro e w4 ⟨rfl, hb⟩
                      replace kt0 := cell_later hb kt0
                      replace kt1 := cell_later hb kt1
                      replace kt2 := cell_later hb kt2
                      replace zt : w.heap.size < w4.heap.size := World.block_lt_of_cell? _ _ kt0
                      have zt_w4 := zt
                      replace hb0 : Below w.heap.size w w4 := (by repeat (first | with_reducible exact Below.refl _ _ | with_reducible assumption | with_reducible refine Below.setCell ?_ (by first | omega | (simp <;> omega)) _ | with_reducible refine balloc ?_ _ | with_reducible refine Below.drew ?_ | with_reducible refine bstep ?_ (by with_reducible assumption)))
                      have hs_w4 : w3.heap.size ≤ w4.heap.size := hb.size
                      clear hb
                      go_wp2_with fail
                      refine Calls.mono (HY _ (by repeat (first | with_reducible exact Below.refl _ _ | with_reducible assumption | with_reducible refine Below.setCell ?_ (by first | omega | (simp <;> omega)) _ | with_reducible refine balloc ?_ _ | with_reducible refine Below.drew ?_ | with_reducible refine bstep ?_ (by with_reducible assumption)))) ?_
                      rintro e w5 ⟨rfl, hb⟩
                      replace kt0 := cell_later hb kt0
                      replace kt1 := cell_later hb kt1
                      replace kt2 := cell_later hb kt2
                      replace zt : w.heap.size < w5.heap.size := World.block_lt_of_cell? _ _ kt0
                      have zt_w5 := zt
                      replace hb0 : Below w.heap.size w w5 := (by repeat (first | with_reducible exact Below.refl _ _ | with_reducible assumption | with_reducible refine Below.setCell ?_ (by first | omega | (simp <;> omega)) _ | with_reducible refine balloc ?_ _ | with_reducible refine Below.drew ?_ | with_reducible refine bstep ?_ (by with_reducible assumption)))
                      have hs_w5 : w4.heap.size ≤ w5.heap.size := hb.size
                      clear hb
                      go_wp2_with fail
                      refine Calls.mono (HO _ (by repeat (first | with_reducible exact Below.refl _ _ | with_reducible assumption | with_reducible refine Below.setCell ?_ (by first | omega | (simp <;> omega)) _ | with_reducible refine balloc ?_ _ | with_reducible refine Below.drew ?_ | with_reducible refine bstep ?_ (by with_reducible assumption)))) ?_
                      rintro e w6 ⟨rfl, hb⟩
                      replace kt0 := cell_later hb (cell_al _ kt0)
                      replace kt1 := cell_later hb (cell_al _ kt1)
                      replace kt2 := cell_later hb (cell_al _ kt2)
                      have kb0 : w6.cell? ⟨w5.heap.size, 0, none⟩ = some (.int .i64 b1) := cell_later hb (by go_simp)
                      have kb1 : w6.cell? ⟨w5.heap.size, 1, none⟩ = some (.int .i64 b2) := cell_later hb (by go_simp)
                      replace zt : w.heap.size < w6.heap.size := World.block_lt_of_cell? _ _ kt0
                      have zt_w6 := zt
                      have zb : w5.heap.size < w6.heap.size := World.block_lt_of_cell? _ _ kb0
                      have zb_w6 := zb
                      replace hb0 : Below w.heap.size w w6 := (by repeat (first | with_reducible exact Below.refl _ _ | with_reducible assumption | with_reducible refine Below.setCell ?_ (by first | omega | (simp <;> omega)) _ | with_reducible refine balloc ?_ _ | with_reducible refine Below.drew ?_ | with_reducible refine bstep ?_ (by with_reducible assumption)))
                      have hs_w6 := hb.size; (try simp only [World.size_alloc, World.size_setCell] at hs_w6)
                      clear hb
                      go_wp2
                      go_ret
                      exact ⟨rfl, (by repeat (first | with_reducible exact Below.refl _ _ | with_reducible assumption | with_reducible refine Below.setCell ?_ (by first | omega | (simp <;> omega)) _ | with_reducible refine balloc ?_ _ | with_reducible refine Below.drew ?_ | with_reducible refine bstep ?_ (by with_reducible assumption)))⟩


end Go.Proofs.Ytemogomligbgiaa.Ti
