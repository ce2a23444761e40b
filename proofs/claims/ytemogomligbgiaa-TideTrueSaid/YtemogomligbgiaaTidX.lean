/- TidX: head. -/
import Derived.Test.YtemogomligbgiaaTidW
import Derived.Test.YtemogomligbgiaaRows
import Derived.WalkKit
import Derived.WalkSpells
import Derived.WalkLawsBesides
import Derived.Lib.Hide
import Derived.Deep.QuietTactic
import Derived.BigQuiet
import Derived.RegionTactic
import Derived.ChangeAlike
import Derived.BigRegion
import Derived.Deep.RegionHeld3
import Derived.Deep.RegionWith
import Derived.Outline
import Derived.IntWalk
import Derived.Deep.DeepCutAuto
import Derived.LoopTactic
namespace Go.Proofs.Ytemogomligbgiaa.Ti
open Go.RowKit Sp
set_option linter.unusedSimpArgs false
set_option linter.unusedVariables false

set_option maxRecDepth 100000 in
set_option maxHeartbeats 16000000 in
theorem head_c (w : World) : Calls Try.prog 11 #[] w (Ret w (.bool true)) := by
  go_enter Try.func11, Try.ntmps11
  go_wp2_with fail
  refine Calls.mono (table_c _) ?_
  rintro e w1 ⟨v1, rfl, ht1, hb⟩
  have hb0 : Below w.heap.size w w1 := (by repeat (first | with_reducible exact Below.refl _ _ | with_reducible assumption | with_reducible refine Below.setCell ?_ (by first | omega | (simp <;> omega)) _ | with_reducible refine balloc ?_ _ | with_reducible refine Below.drew ?_ | with_reducible refine bstep ?_ (by with_reducible assumption)))
  have hs_w1 := hb.size; (try simp only [World.size_alloc, World.size_setCell] at hs_w1)
  clear hb
  go_wp2_with fail
  refine Calls.mono (HA _ v1 (ht1.below (by repeat (first | with_reducible exact Below.refl _ _ | with_reducible assumption | with_reducible refine Below.setCell ?_ (by first | omega | (simp <;> omega)) _ | with_reducible refine balloc ?_ _ | with_reducible refine Below.drew ?_ | with_reducible refine bstep ?_ (by with_reducible assumption))))) ?_
  rintro e w2 ⟨rfl, hb⟩
  have hcx : Below w1.heap.size w1 w2 := (by repeat (first | with_reducible exact Below.refl _ _ | with_reducible assumption | with_reducible refine Below.setCell ?_ (by first | omega | (simp <;> omega)) _ | with_reducible refine balloc ?_ _ | with_reducible refine Below.drew ?_ | with_reducible refine bstep ?_ (by with_reducible assumption)))
  replace ht1 := ht1.below hcx
  clear hcx
  replace hb0 : Below w.heap.size w w2 := (by repeat (first | with_reducible exact Below.refl _ _ | with_reducible assumption | with_reducible refine Below.setCell ?_ (by first | omega | (simp <;> omega)) _ | with_reducible refine balloc ?_ _ | with_reducible refine Below.drew ?_ | with_reducible refine bstep ?_ (by with_reducible assumption)))
  have hs_w2 : w1.heap.size ≤ w2.heap.size := hb.size
  clear hb
  clear ht1
  go_wp2_with fail
  refine Calls.mono (table_c _) ?_
  rintro e w3 ⟨v2, rfl, ht2, hb⟩
  have ka0 : w3.cell? ⟨w2.heap.size, 0, none⟩ = some (.int .i64 5) := cell_later hb (by go_simp)
  have ka1 : w3.cell? ⟨w2.heap.size, 1, none⟩ = some (.int .i64 7) := cell_later hb (by go_simp)
  have za : w2.heap.size < w3.heap.size := World.block_lt_of_cell? _ _ ka0
  have za_w3 := za
  replace hb0 : Below w.heap.size w w3 := (by repeat (first | with_reducible exact Below.refl _ _ | with_reducible assumption | with_reducible refine Below.setCell ?_ (by first | omega | (simp <;> omega)) _ | with_reducible refine balloc ?_ _ | with_reducible refine Below.drew ?_ | with_reducible refine bstep ?_ (by with_reducible assumption)))
  have hs_w3 := hb.size; (try simp only [World.size_alloc, World.size_setCell] at hs_w3)
  clear hb
  go_wp2_with fail
  refine Calls.mono (HB _ v2 (ht2.below (by repeat (first | with_reducible exact Below.refl _ _ | with_reducible assumption | with_reducible refine Below.setCell ?_ (by first | omega | (simp <;> omega)) _ | with_reducible refine balloc ?_ _ | with_reducible refine Below.drew ?_ | with_reducible refine bstep ?_ (by with_reducible assumption))))) ?_
  rintro e w4 ⟨rfl, hb⟩
  have hcx : Below w3.heap.size w3 w4 := (by repeat (first | with_reducible exact Below.refl _ _ | with_reducible assumption | with_reducible refine Below.setCell ?_ (by first | omega | (simp <;> omega)) _ | with_reducible refine balloc ?_ _ | with_reducible refine Below.drew ?_ | with_reducible refine bstep ?_ (by with_reducible assumption)))
  replace ht2 := ht2.below hcx
  clear hcx
  replace ka0 := cell_later hb ka0
  replace ka1 := cell_later hb ka1
  replace za : w2.heap.size < w4.heap.size := World.block_lt_of_cell? _ _ ka0
  have za_w4 := za
  replace hb0 : Below w.heap.size w w4 := (by repeat (first | with_reducible exact Below.refl _ _ | with_reducible assumption | with_reducible refine Below.setCell ?_ (by first | omega | (simp <;> omega)) _ | with_reducible refine balloc ?_ _ | with_reducible refine Below.drew ?_ | with_reducible refine bstep ?_ (by with_reducible assumption)))
  have hs_w4 : w3.heap.size ≤ w4.heap.size := hb.size
  clear hb
  clear ht2
  go_wp2_with fail
  refine Calls.mono (table_c _) ?_
  rintro e w5 ⟨v3, rfl, ht3, hb⟩
  replace ka0 := cell_later hb (cell_al _ ka0)
  replace ka1 := cell_later hb (cell_al _ ka1)
  have kb0 : w5.cell? ⟨w4.heap.size, 0, none⟩ = some (.int .i64 5) := cell_later hb (by go_simp)
  have kb1 : w5.cell? ⟨w4.heap.size, 1, none⟩ = some (.int .i64 12) := cell_later hb (by go_simp)
  replace za : w2.heap.size < w5.heap.size := World.block_lt_of_cell? _ _ ka0
  have za_w5 := za
  have zb : w4.heap.size < w5.heap.size := World.block_lt_of_cell? _ _ kb0
  have zb_w5 := zb
  replace hb0 : Below w.heap.size w w5 := (by repeat (first | with_reducible exact Below.refl _ _ | with_reducible assumption | with_reducible refine Below.setCell ?_ (by first | omega | (simp <;> omega)) _ | with_reducible refine balloc ?_ _ | with_reducible refine Below.drew ?_ | with_reducible refine bstep ?_ (by with_reducible assumption)))
  have hs_w5 := hb.size; (try simp only [World.size_alloc, World.size_setCell] at hs_w5)
  clear hb
  go_wp2_with fail
  refine Calls.mono (HC _ v3 (ht3.below (by repeat (first | with_reducible exact Below.refl _ _ | with_reducible assumption | with_reducible refine Below.setCell ?_ (by first | omega | (simp <;> omega)) _ | with_reducible refine balloc ?_ _ | with_reducible refine Below.drew ?_ | with_reducible refine bstep ?_ (by with_reducible assumption))))) ?_
  rintro e w6 ⟨rfl, hb⟩
  have hcx : Below w5.heap.size w5 w6 := (by repeat (first | with_reducible exact Below.refl _ _ | with_reducible assumption | with_reducible refine Below.setCell ?_ (by first | omega | (simp <;> omega)) _ | with_reducible refine balloc ?_ _ | with_reducible refine Below.drew ?_ | with_reducible refine bstep ?_ (by with_reducible assumption)))
  replace ht3 := ht3.below hcx
  clear hcx
  replace ka0 := cell_later hb ka0
  replace ka1 := cell_later hb ka1
  replace kb0 := cell_later hb kb0
  replace kb1 := cell_later hb kb1
  replace za : w2.heap.size < w6.heap.size := World.block_lt_of_cell? _ _ ka0
  have za_w6 := za
  replace zb : w4.heap.size < w6.heap.size := World.block_lt_of_cell? _ _ kb0
  have zb_w6 := zb
  replace hb0 : Below w.heap.size w w6 := (by repeat (first | with_reducible exact Below.refl _ _ | with_reducible assumption | with_reducible refine Below.setCell ?_ (by first | omega | (simp <;> omega)) _ | with_reducible refine balloc ?_ _ | with_reducible refine Below.drew ?_ | with_reducible refine bstep ?_ (by with_reducible assumption)))
  have hs_w6 : w5.heap.size ≤ w6.heap.size := hb.size
  clear hb
  clear ht3
  go_wp2_with fail
  refine Calls.mono (table_c _) ?_
  rintro e w7 ⟨v4, rfl, ht4, hb⟩
  replace ka0 := cell_later hb (cell_al _ ka0)
  replace ka1 := cell_later hb (cell_al _ ka1)
  replace kb0 := cell_later hb (cell_al _ kb0)
  replace kb1 := cell_later hb (cell_al _ kb1)
  have kc0 : w7.cell? ⟨w6.heap.size, 0, none⟩ = some (.int .i64 5) := cell_later hb (by go_simp)
  have kc1 : w7.cell? ⟨w6.heap.size, 1, none⟩ = some (.int .i64 12) := cell_later hb (by go_simp)
  replace za : w2.heap.size < w7.heap.size := World.block_lt_of_cell? _ _ ka0
  have za_w7 := za
  replace zb : w4.heap.size < w7.heap.size := World.block_lt_of_cell? _ _ kb0
  have zb_w7 := zb
  have zc : w6.heap.size < w7.heap.size := World.block_lt_of_cell? _ _ kc0
  have zc_w7 := zc
  replace hb0 : Below w.heap.size w w7 := (by repeat (first | with_reducible exact Below.refl _ _ | with_reducible assumption | with_reducible refine Below.setCell ?_ (by first | omega | (simp <;> omega)) _ | with_reducible refine balloc ?_ _ | with_reducible refine Below.drew ?_ | with_reducible refine bstep ?_ (by with_reducible assumption)))
  have hs_w7 := hb.size; (try simp only [World.size_alloc, World.size_setCell] at hs_w7)
  clear hb
  go_wp2_with fail
  refine Calls.mono (WA _ v4 (ht4.below (by repeat (first | with_reducible exact Below.refl _ _ | with_reducible assumption | with_reducible refine Below.setCell ?_ (by first | omega | (simp <;> omega)) _ | with_reducible refine balloc ?_ _ | with_reducible refine Below.drew ?_ | with_reducible refine bstep ?_ (by with_reducible assumption))))) ?_
  rintro e w8 ⟨x, rfl, hx, hb⟩
  have hcx : Below w7.heap.size w7 w8 := (by repeat (first | with_reducible exact Below.refl _ _ | with_reducible assumption | with_reducible refine Below.setCell ?_ (by first | omega | (simp <;> omega)) _ | with_reducible refine balloc ?_ _ | with_reducible refine Below.drew ?_ | with_reducible refine bstep ?_ (by with_reducible assumption)))
  replace ht4 := ht4.below hcx
  clear hcx
  replace ka0 := cell_later hb ka0
  replace ka1 := cell_later hb ka1
  replace kb0 := cell_later hb kb0
  replace kb1 := cell_later hb kb1
  replace kc0 := cell_later hb kc0
  replace kc1 := cell_later hb kc1
  replace za : w2.heap.size < w8.heap.size := World.block_lt_of_cell? _ _ ka0
  have za_w8 := za
  replace zb : w4.heap.size < w8.heap.size := World.block_lt_of_cell? _ _ kb0
  have zb_w8 := zb
  replace zc : w6.heap.size < w8.heap.size := World.block_lt_of_cell? _ _ kc0
  have zc_w8 := zc
  replace hb0 : Below w.heap.size w w8 := (by repeat (first | with_reducible exact Below.refl _ _ | with_reducible assumption | with_reducible refine Below.setCell ?_ (by first | omega | (simp <;> omega)) _ | with_reducible refine balloc ?_ _ | with_reducible refine Below.drew ?_ | with_reducible refine bstep ?_ (by with_reducible assumption)))
  have hs_w8 : w7.heap.size ≤ w8.heap.size := hb.size
  clear hb
  clear ht4
  go_wp2_with fail
  refine Calls.mono (table_c _) ?_
  rintro e w9 ⟨v5, rfl, ht5, hb⟩
  have hcx : Below w8.heap.size w8 w9 := (by repeat (first | with_reducible exact Below.refl _ _ | with_reducible assumption | with_reducible refine Below.setCell ?_ (by first | omega | (simp <;> omega)) _ | with_reducible refine balloc ?_ _ | with_reducible refine Below.drew ?_ | with_reducible refine bstep ?_ (by with_reducible assumption)))
  replace hx := hx.below hcx
  clear hcx
  replace ka0 := cell_later hb ka0
  replace ka1 := cell_later hb ka1
  replace kb0 := cell_later hb kb0
  replace kb1 := cell_later hb kb1
  replace kc0 := cell_later hb kc0
  replace kc1 := cell_later hb kc1
  replace za : w2.heap.size < w9.heap.size := World.block_lt_of_cell? _ _ ka0
  have za_w9 := za
  replace zb : w4.heap.size < w9.heap.size := World.block_lt_of_cell? _ _ kb0
  have zb_w9 := zb
  replace zc : w6.heap.size < w9.heap.size := World.block_lt_of_cell? _ _ kc0
  have zc_w9 := zc
  replace hb0 : Below w.heap.size w w9 := (by repeat (first | with_reducible exact Below.refl _ _ | with_reducible assumption | with_reducible refine Below.setCell ?_ (by first | omega | (simp <;> omega)) _ | with_reducible refine balloc ?_ _ | with_reducible refine Below.drew ?_ | with_reducible refine bstep ?_ (by with_reducible assumption)))
  have hs_w9 : w8.heap.size ≤ w9.heap.size := hb.size
  clear hb
  go_wp2_with fail
  refine Calls.mono (WB _ v5 (ht5.below (by repeat (first | with_reducible exact Below.refl _ _ | with_reducible assumption | with_reducible refine Below.setCell ?_ (by first | omega | (simp <;> omega)) _ | with_reducible refine balloc ?_ _ | with_reducible refine Below.drew ?_ | with_reducible refine bstep ?_ (by with_reducible assumption))))) ?_
  rintro e w10 ⟨y, rfl, hy, hb⟩
  have hcx : Below w9.heap.size w9 w10 := (by repeat (first | with_reducible exact Below.refl _ _ | with_reducible assumption | with_reducible refine Below.setCell ?_ (by first | omega | (simp <;> omega)) _ | with_reducible refine balloc ?_ _ | with_reducible refine Below.drew ?_ | with_reducible refine bstep ?_ (by with_reducible assumption)))
  replace hx := hx.below hcx
  replace ht5 := ht5.below hcx
  clear hcx
  replace ka0 := cell_later hb ka0
  replace ka1 := cell_later hb ka1
  replace kb0 := cell_later hb kb0
  replace kb1 := cell_later hb kb1
  replace kc0 := cell_later hb kc0
  replace kc1 := cell_later hb kc1
  replace za : w2.heap.size < w10.heap.size := World.block_lt_of_cell? _ _ ka0
  have za_w10 := za
  replace zb : w4.heap.size < w10.heap.size := World.block_lt_of_cell? _ _ kb0
  have zb_w10 := zb
  replace zc : w6.heap.size < w10.heap.size := World.block_lt_of_cell? _ _ kc0
  have zc_w10 := zc
  replace hb0 : Below w.heap.size w w10 := (by repeat (first | with_reducible exact Below.refl _ _ | with_reducible assumption | with_reducible refine Below.setCell ?_ (by first | omega | (simp <;> omega)) _ | with_reducible refine balloc ?_ _ | with_reducible refine Below.drew ?_ | with_reducible refine bstep ?_ (by with_reducible assumption)))
  have hs_w10 : w9.heap.size ≤ w10.heap.size := hb.size
  clear hb
  clear ht5
  go_wp2_with fail
  refine Calls.mono (table_c _) ?_
  rintro e w11 ⟨v6, rfl, ht6, hb⟩
  have hcx : Below w10.heap.size w10 w11 := (by repeat (first | with_reducible exact Below.refl _ _ | with_reducible assumption | with_reducible refine Below.setCell ?_ (by first | omega | (simp <;> omega)) _ | with_reducible refine balloc ?_ _ | with_reducible refine Below.drew ?_ | with_reducible refine bstep ?_ (by with_reducible assumption)))
  replace hx := hx.below hcx
  replace hy := hy.below hcx
  clear hcx
  replace ka0 := cell_later hb ka0
  replace ka1 := cell_later hb ka1
  replace kb0 := cell_later hb kb0
  replace kb1 := cell_later hb kb1
  replace kc0 := cell_later hb kc0
  replace kc1 := cell_later hb kc1
  replace za : w2.heap.size < w11.heap.size := World.block_lt_of_cell? _ _ ka0
  have za_w11 := za
  replace zb : w4.heap.size < w11.heap.size := World.block_lt_of_cell? _ _ kb0
  have zb_w11 := zb
  replace zc : w6.heap.size < w11.heap.size := World.block_lt_of_cell? _ _ kc0
  have zc_w11 := zc
  replace hb0 : Below w.heap.size w w11 := (by repeat (first | with_reducible exact Below.refl _ _ | with_reducible assumption | with_reducible refine Below.setCell ?_ (by first | omega | (simp <;> omega)) _ | with_reducible refine balloc ?_ _ | with_reducible refine Below.drew ?_ | with_reducible refine bstep ?_ (by with_reducible assumption)))
  have hs_w11 : w10.heap.size ≤ w11.heap.size := hb.size
  clear hb
  go_wp2_with fail
  refine Calls.mono (WC _ v6 (ht6.below (by repeat (first | with_reducible exact Below.refl _ _ | with_reducible assumption | with_reducible refine Below.setCell ?_ (by first | omega | (simp <;> omega)) _ | with_reducible refine balloc ?_ _ | with_reducible refine Below.drew ?_ | with_reducible refine bstep ?_ (by with_reducible assumption))))) ?_
  rintro e w12 ⟨z, rfl, hz, hb⟩
  have hcx : Below w11.heap.size w11 w12 := (by repeat (first | with_reducible exact Below.refl _ _ | with_reducible assumption | with_reducible refine Below.setCell ?_ (by first | omega | (simp <;> omega)) _ | with_reducible refine balloc ?_ _ | with_reducible refine Below.drew ?_ | with_reducible refine bstep ?_ (by with_reducible assumption)))
  replace hx := hx.below hcx
  replace hy := hy.below hcx
  replace ht6 := ht6.below hcx
  clear hcx
  replace ka0 := cell_later hb ka0
  replace ka1 := cell_later hb ka1
  replace kb0 := cell_later hb kb0
  replace kb1 := cell_later hb kb1
  replace kc0 := cell_later hb kc0
  replace kc1 := cell_later hb kc1
  replace za : w2.heap.size < w12.heap.size := World.block_lt_of_cell? _ _ ka0
  have za_w12 := za
  replace zb : w4.heap.size < w12.heap.size := World.block_lt_of_cell? _ _ kb0
  have zb_w12 := zb
  replace zc : w6.heap.size < w12.heap.size := World.block_lt_of_cell? _ _ kc0
  have zc_w12 := zc
  replace hb0 : Below w.heap.size w w12 := (by repeat (first | with_reducible exact Below.refl _ _ | with_reducible assumption | with_reducible refine Below.setCell ?_ (by first | omega | (simp <;> omega)) _ | with_reducible refine balloc ?_ _ | with_reducible refine Below.drew ?_ | with_reducible refine bstep ?_ (by with_reducible assumption)))
  have hs_w12 : w11.heap.size ≤ w12.heap.size := hb.size
  clear hb
  clear ht6
  go_wp2_with fail
  refine Calls.mono (SQ _ _ [(110, 120)] _ (hx.below (by repeat (first | with_reducible exact Below.refl _ _ | with_reducible assumption | with_reducible refine Below.setCell ?_ (by first | omega | (simp <;> omega)) _ | with_reducible refine balloc ?_ _ | with_reducible refine Below.drew ?_ | with_reducible refine bstep ?_ (by with_reducible assumption)))) (spans_lit _ [(110, 120)] #[(.int .i64 110), (.int .i64 120)] rfl 26 1 rfl (by omega))) ?_
  rintro e w13 ⟨rfl, hb⟩
  have hcx : Below w12.heap.size w12 w13 := (by repeat (first | with_reducible exact Below.refl _ _ | with_reducible assumption | with_reducible refine Below.setCell ?_ (by first | omega | (simp <;> omega)) _ | with_reducible refine balloc ?_ _ | with_reducible refine Below.drew ?_ | with_reducible refine bstep ?_ (by with_reducible assumption)))
  replace hx := hx.below hcx
  replace hy := hy.below hcx
  replace hz := hz.below hcx
  clear hcx
  replace ka0 := cell_later hb (cell_al _ ka0)
  replace ka1 := cell_later hb (cell_al _ ka1)
  replace kb0 := cell_later hb (cell_al _ kb0)
  replace kb1 := cell_later hb (cell_al _ kb1)
  replace kc0 := cell_later hb (cell_al _ kc0)
  replace kc1 := cell_later hb (cell_al _ kc1)
  have kl0 : w13.cell? ⟨w12.heap.size, 0, none⟩ = some (.int .i64 110) := cell_later hb (by go_simp)
  have kl1 : w13.cell? ⟨w12.heap.size, 1, none⟩ = some (.int .i64 120) := cell_later hb (by go_simp)
  replace za : w2.heap.size < w13.heap.size := World.block_lt_of_cell? _ _ ka0
  have za_w13 := za
  replace zb : w4.heap.size < w13.heap.size := World.block_lt_of_cell? _ _ kb0
  have zb_w13 := zb
  replace zc : w6.heap.size < w13.heap.size := World.block_lt_of_cell? _ _ kc0
  have zc_w13 := zc
  have zl : w12.heap.size < w13.heap.size := World.block_lt_of_cell? _ _ kl0
  have zl_w13 := zl
  replace hb0 : Below w.heap.size w w13 := (by repeat (first | with_reducible exact Below.refl _ _ | with_reducible assumption | with_reducible refine Below.setCell ?_ (by first | omega | (simp <;> omega)) _ | with_reducible refine balloc ?_ _ | with_reducible refine Below.drew ?_ | with_reducible refine bstep ?_ (by with_reducible assumption)))
  have hs_w13 := hb.size; (try simp only [World.size_alloc, World.size_setCell] at hs_w13)
  clear hb
  go_wp2_with fail
  refine Calls.mono (SQ _ _ [(110, 110)] _ (hy.below (by repeat (first | with_reducible exact Below.refl _ _ | with_reducible assumption | with_reducible refine Below.setCell ?_ (by first | omega | (simp <;> omega)) _ | with_reducible refine balloc ?_ _ | with_reducible refine Below.drew ?_ | with_reducible refine bstep ?_ (by with_reducible assumption)))) (spans_lit _ [(110, 110)] #[(.int .i64 110), (.int .i64 110)] rfl 26 1 rfl (by omega))) ?_
  rintro e w14 ⟨rfl, hb⟩
  have hcx : Below w13.heap.size w13 w14 := (by repeat (first | with_reducible exact Below.refl _ _ | with_reducible assumption | with_reducible refine Below.setCell ?_ (by first | omega | (simp <;> omega)) _ | with_reducible refine balloc ?_ _ | with_reducible refine Below.drew ?_ | with_reducible refine bstep ?_ (by with_reducible assumption)))
  replace hx := hx.below hcx
  replace hy := hy.below hcx
  replace hz := hz.below hcx
  clear hcx
  replace ka0 := cell_later hb (cell_al _ ka0)
  replace ka1 := cell_later hb (cell_al _ ka1)
  replace kb0 := cell_later hb (cell_al _ kb0)
  replace kb1 := cell_later hb (cell_al _ kb1)
  replace kc0 := cell_later hb (cell_al _ kc0)
  replace kc1 := cell_later hb (cell_al _ kc1)
  replace kl0 := cell_later hb (cell_al _ kl0)
  replace kl1 := cell_later hb (cell_al _ kl1)
  have kk0 : w14.cell? ⟨w13.heap.size, 0, none⟩ = some (.int .i64 110) := cell_later hb (by go_simp)
  have kk1 : w14.cell? ⟨w13.heap.size, 1, none⟩ = some (.int .i64 110) := cell_later hb (by go_simp)
  replace za : w2.heap.size < w14.heap.size := World.block_lt_of_cell? _ _ ka0
  have za_w14 := za
  replace zb : w4.heap.size < w14.heap.size := World.block_lt_of_cell? _ _ kb0
  have zb_w14 := zb
  replace zc : w6.heap.size < w14.heap.size := World.block_lt_of_cell? _ _ kc0
  have zc_w14 := zc
  replace zl : w12.heap.size < w14.heap.size := World.block_lt_of_cell? _ _ kl0
  have zl_w14 := zl
  have zk : w13.heap.size < w14.heap.size := World.block_lt_of_cell? _ _ kk0
  have zk_w14 := zk
  replace hb0 : Below w.heap.size w w14 := (by repeat (first | with_reducible exact Below.refl _ _ | with_reducible assumption | with_reducible refine Below.setCell ?_ (by first | omega | (simp <;> omega)) _ | with_reducible refine balloc ?_ _ | with_reducible refine Below.drew ?_ | with_reducible refine bstep ?_ (by with_reducible assumption)))
  have hs_w14 := hb.size; (try simp only [World.size_alloc, World.size_setCell] at hs_w14)
  clear hb
  go_wp2_with fail
  refine Calls.mono (SQ _ _ [(110, 120)] _ (hz.below (by repeat (first | with_reducible exact Below.refl _ _ | with_reducible assumption | with_reducible refine Below.setCell ?_ (by first | omega | (simp <;> omega)) _ | with_reducible refine balloc ?_ _ | with_reducible refine Below.drew ?_ | with_reducible refine bstep ?_ (by with_reducible assumption)))) (hx.below (by repeat (first | with_reducible exact Below.refl _ _ | with_reducible assumption | with_reducible refine Below.setCell ?_ (by first | omega | (simp <;> omega)) _ | with_reducible refine balloc ?_ _ | with_reducible refine Below.drew ?_ | with_reducible refine bstep ?_ (by with_reducible assumption))))) ?_
  rintro e w15 ⟨rfl, hb⟩
  have hcx : Below w14.heap.size w14 w15 := (by repeat (first | with_reducible exact Below.refl _ _ | with_reducible assumption | with_reducible refine Below.setCell ?_ (by first | omega | (simp <;> omega)) _ | with_reducible refine balloc ?_ _ | with_reducible refine Below.drew ?_ | with_reducible refine bstep ?_ (by with_reducible assumption)))
  replace hx := hx.below hcx
  replace hy := hy.below hcx
  replace hz := hz.below hcx
  clear hcx
  replace ka0 := cell_later hb ka0
  replace ka1 := cell_later hb ka1
  replace kb0 := cell_later hb kb0
  replace kb1 := cell_later hb kb1
  replace kc0 := cell_later hb kc0
  replace kc1 := cell_later hb kc1
  replace kl0 := cell_later hb kl0
  replace kl1 := cell_later hb kl1
  replace kk0 := cell_later hb kk0
  replace kk1 := cell_later hb kk1
  replace za : w2.heap.size < w15.heap.size := World.block_lt_of_cell? _ _ ka0
  have za_w15 := za
  replace zb : w4.heap.size < w15.heap.size := World.block_lt_of_cell? _ _ kb0
  have zb_w15 := zb
  replace zc : w6.heap.size < w15.heap.size := World.block_lt_of_cell? _ _ kc0
  have zc_w15 := zc
  replace zl : w12.heap.size < w15.heap.size := World.block_lt_of_cell? _ _ kl0
  have zl_w15 := zl
  replace zk : w13.heap.size < w15.heap.size := World.block_lt_of_cell? _ _ kk0
  have zk_w15 := zk
  replace hb0 : Below w.heap.size w w15 := (by repeat (first | with_reducible exact Below.refl _ _ | with_reducible assumption | with_reducible refine Below.setCell ?_ (by first | omega | (simp <;> omega)) _ | with_reducible refine balloc ?_ _ | with_reducible refine Below.drew ?_ | with_reducible refine bstep ?_ (by with_reducible assumption)))
  have hs_w15 : w14.heap.size ≤ w15.heap.size := hb.size
  clear hb
  clear hx
  clear hy
  clear hz
  go_wp2_with fail
  refine Calls.mono (table_c _) ?_
  rintro e w16 ⟨v7, rfl, ht7, hb⟩
  replace ka0 := cell_later hb ka0
  replace ka1 := cell_later hb ka1
  replace kb0 := cell_later hb kb0
  replace kb1 := cell_later hb kb1
  replace kc0 := cell_later hb kc0
  replace kc1 := cell_later hb kc1
  replace kl0 := cell_later hb kl0
  replace kl1 := cell_later hb kl1
  replace kk0 := cell_later hb kk0
  replace kk1 := cell_later hb kk1
  replace za : w2.heap.size < w16.heap.size := World.block_lt_of_cell? _ _ ka0
  have za_w16 := za
  replace zb : w4.heap.size < w16.heap.size := World.block_lt_of_cell? _ _ kb0
  have zb_w16 := zb
  replace zc : w6.heap.size < w16.heap.size := World.block_lt_of_cell? _ _ kc0
  have zc_w16 := zc
  replace zl : w12.heap.size < w16.heap.size := World.block_lt_of_cell? _ _ kl0
  have zl_w16 := zl
  replace zk : w13.heap.size < w16.heap.size := World.block_lt_of_cell? _ _ kk0
  have zk_w16 := zk
  replace hb0 : Below w.heap.size w w16 := (by repeat (first | with_reducible exact Below.refl _ _ | with_reducible assumption | with_reducible refine Below.setCell ?_ (by first | omega | (simp <;> omega)) _ | with_reducible refine balloc ?_ _ | with_reducible refine Below.drew ?_ | with_reducible refine bstep ?_ (by with_reducible assumption)))
  have hs_w16 : w15.heap.size ≤ w16.heap.size := hb.size
  clear hb
  go_wp2_with fail
  refine Calls.mono (NA _ v7 (ht7.below (by repeat (first | with_reducible exact Below.refl _ _ | with_reducible assumption | with_reducible refine Below.setCell ?_ (by first | omega | (simp <;> omega)) _ | with_reducible refine balloc ?_ _ | with_reducible refine Below.drew ?_ | with_reducible refine bstep ?_ (by with_reducible assumption))))) ?_
  rintro e w17 ⟨rfl, hb⟩
  have hcx : Below w16.heap.size w16 w17 := (by repeat (first | with_reducible exact Below.refl _ _ | with_reducible assumption | with_reducible refine Below.setCell ?_ (by first | omega | (simp <;> omega)) _ | with_reducible refine balloc ?_ _ | with_reducible refine Below.drew ?_ | with_reducible refine bstep ?_ (by with_reducible assumption)))
  replace ht7 := ht7.below hcx
  clear hcx
  replace ka0 := cell_later hb ka0
  replace ka1 := cell_later hb ka1
  replace kb0 := cell_later hb kb0
  replace kb1 := cell_later hb kb1
  replace kc0 := cell_later hb kc0
  replace kc1 := cell_later hb kc1
  replace kl0 := cell_later hb kl0
  replace kl1 := cell_later hb kl1
  replace kk0 := cell_later hb kk0
  replace kk1 := cell_later hb kk1
  replace za : w2.heap.size < w17.heap.size := World.block_lt_of_cell? _ _ ka0
  have za_w17 := za
  replace zb : w4.heap.size < w17.heap.size := World.block_lt_of_cell? _ _ kb0
  have zb_w17 := zb
  replace zc : w6.heap.size < w17.heap.size := World.block_lt_of_cell? _ _ kc0
  have zc_w17 := zc
  replace zl : w12.heap.size < w17.heap.size := World.block_lt_of_cell? _ _ kl0
  have zl_w17 := zl
  replace zk : w13.heap.size < w17.heap.size := World.block_lt_of_cell? _ _ kk0
  have zk_w17 := zk
  replace hb0 : Below w.heap.size w w17 := (by repeat (first | with_reducible exact Below.refl _ _ | with_reducible assumption | with_reducible refine Below.setCell ?_ (by first | omega | (simp <;> omega)) _ | with_reducible refine balloc ?_ _ | with_reducible refine Below.drew ?_ | with_reducible refine bstep ?_ (by with_reducible assumption)))
  have hs_w17 : w16.heap.size ≤ w17.heap.size := hb.size
  clear hb
  clear ht7
  go_wp2_with fail
  refine Calls.mono (table_c _) ?_
  rintro e w18 ⟨v8, rfl, ht8, hb⟩
  replace ka0 := cell_later hb ka0
  replace ka1 := cell_later hb ka1
  replace kb0 := cell_later hb kb0
  replace kb1 := cell_later hb kb1
  replace kc0 := cell_later hb kc0
  replace kc1 := cell_later hb kc1
  replace kl0 := cell_later hb kl0
  replace kl1 := cell_later hb kl1
  replace kk0 := cell_later hb kk0
  replace kk1 := cell_later hb kk1
  replace za : w2.heap.size < w18.heap.size := World.block_lt_of_cell? _ _ ka0
  have za_w18 := za
  replace zb : w4.heap.size < w18.heap.size := World.block_lt_of_cell? _ _ kb0
  have zb_w18 := zb
  replace zc : w6.heap.size < w18.heap.size := World.block_lt_of_cell? _ _ kc0
  have zc_w18 := zc
  replace zl : w12.heap.size < w18.heap.size := World.block_lt_of_cell? _ _ kl0
  have zl_w18 := zl
  replace zk : w13.heap.size < w18.heap.size := World.block_lt_of_cell? _ _ kk0
  have zk_w18 := zk
  replace hb0 : Below w.heap.size w w18 := (by repeat (first | with_reducible exact Below.refl _ _ | with_reducible assumption | with_reducible refine Below.setCell ?_ (by first | omega | (simp <;> omega)) _ | with_reducible refine balloc ?_ _ | with_reducible refine Below.drew ?_ | with_reducible refine bstep ?_ (by with_reducible assumption)))
  have hs_w18 : w17.heap.size ≤ w18.heap.size := hb.size
  clear hb
  go_wp2_with fail
  refine Calls.mono (NB _ v8 (ht8.below (by repeat (first | with_reducible exact Below.refl _ _ | with_reducible assumption | with_reducible refine Below.setCell ?_ (by first | omega | (simp <;> omega)) _ | with_reducible refine balloc ?_ _ | with_reducible refine Below.drew ?_ | with_reducible refine bstep ?_ (by with_reducible assumption))))) ?_
  rintro e w19 ⟨rfl, hb⟩
  have hcx : Below w18.heap.size w18 w19 := (by repeat (first | with_reducible exact Below.refl _ _ | with_reducible assumption | with_reducible refine Below.setCell ?_ (by first | omega | (simp <;> omega)) _ | with_reducible refine balloc ?_ _ | with_reducible refine Below.drew ?_ | with_reducible refine bstep ?_ (by with_reducible assumption)))
  replace ht8 := ht8.below hcx
  clear hcx
  replace ka0 := cell_later hb ka0
  replace ka1 := cell_later hb ka1
  replace kb0 := cell_later hb kb0
  replace kb1 := cell_later hb kb1
  replace kc0 := cell_later hb kc0
  replace kc1 := cell_later hb kc1
  replace kl0 := cell_later hb kl0
  replace kl1 := cell_later hb kl1
  replace kk0 := cell_later hb kk0
  replace kk1 := cell_later hb kk1
  replace za : w2.heap.size < w19.heap.size := World.block_lt_of_cell? _ _ ka0
  have za_w19 := za
  replace zb : w4.heap.size < w19.heap.size := World.block_lt_of_cell? _ _ kb0
  have zb_w19 := zb
  replace zc : w6.heap.size < w19.heap.size := World.block_lt_of_cell? _ _ kc0
  have zc_w19 := zc
  replace zl : w12.heap.size < w19.heap.size := World.block_lt_of_cell? _ _ kl0
  have zl_w19 := zl
  replace zk : w13.heap.size < w19.heap.size := World.block_lt_of_cell? _ _ kk0
  have zk_w19 := zk
  replace hb0 : Below w.heap.size w w19 := (by repeat (first | with_reducible exact Below.refl _ _ | with_reducible assumption | with_reducible refine Below.setCell ?_ (by first | omega | (simp <;> omega)) _ | with_reducible refine balloc ?_ _ | with_reducible refine Below.drew ?_ | with_reducible refine bstep ?_ (by with_reducible assumption)))
  have hs_w19 : w18.heap.size ≤ w19.heap.size := hb.size
  clear hb
  clear ht8
  go_wp2_with fail
  refine Calls.mono (table_c _) ?_
  rintro e w20 ⟨v9, rfl, ht9, hb⟩
  replace ka0 := cell_later hb ka0
  replace ka1 := cell_later hb ka1
  replace kb0 := cell_later hb kb0
  replace kb1 := cell_later hb kb1
  replace kc0 := cell_later hb kc0
  replace kc1 := cell_later hb kc1
  replace kl0 := cell_later hb kl0
  replace kl1 := cell_later hb kl1
  replace kk0 := cell_later hb kk0
  replace kk1 := cell_later hb kk1
  replace za : w2.heap.size < w20.heap.size := World.block_lt_of_cell? _ _ ka0
  have za_w20 := za
  replace zb : w4.heap.size < w20.heap.size := World.block_lt_of_cell? _ _ kb0
  have zb_w20 := zb
  replace zc : w6.heap.size < w20.heap.size := World.block_lt_of_cell? _ _ kc0
  have zc_w20 := zc
  replace zl : w12.heap.size < w20.heap.size := World.block_lt_of_cell? _ _ kl0
  have zl_w20 := zl
  replace zk : w13.heap.size < w20.heap.size := World.block_lt_of_cell? _ _ kk0
  have zk_w20 := zk
  replace hb0 : Below w.heap.size w w20 := (by repeat (first | with_reducible exact Below.refl _ _ | with_reducible assumption | with_reducible refine Below.setCell ?_ (by first | omega | (simp <;> omega)) _ | with_reducible refine balloc ?_ _ | with_reducible refine Below.drew ?_ | with_reducible refine bstep ?_ (by with_reducible assumption)))
  have hs_w20 : w19.heap.size ≤ w20.heap.size := hb.size
  clear hb
  go_wp2_with fail
  refine Calls.mono (MA _ v9 _ (spans_lit _ [(6, 9), (12, 13), (0, 8)] #[(.int .i64 6), (.int .i64 9), (.int .i64 12), (.int .i64 13), (.int .i64 0), (.int .i64 8)] rfl 26 3 rfl (by omega)) (ht9.below (by repeat (first | with_reducible exact Below.refl _ _ | with_reducible assumption | with_reducible refine Below.setCell ?_ (by first | omega | (simp <;> omega)) _ | with_reducible refine balloc ?_ _ | with_reducible refine Below.drew ?_ | with_reducible refine bstep ?_ (by with_reducible assumption))))) ?_
  rintro e w21 ⟨pm, cm, rfl, hm, hb⟩
  have hcx : Below w20.heap.size w20 w21 := (by repeat (first | with_reducible exact Below.refl _ _ | with_reducible assumption | with_reducible refine Below.setCell ?_ (by first | omega | (simp <;> omega)) _ | with_reducible refine balloc ?_ _ | with_reducible refine Below.drew ?_ | with_reducible refine bstep ?_ (by with_reducible assumption)))
  replace ht9 := ht9.below hcx
  clear hcx
  replace ka0 := cell_later hb (cell_al _ ka0)
  replace ka1 := cell_later hb (cell_al _ ka1)
  replace kb0 := cell_later hb (cell_al _ kb0)
  replace kb1 := cell_later hb (cell_al _ kb1)
  replace kc0 := cell_later hb (cell_al _ kc0)
  replace kc1 := cell_later hb (cell_al _ kc1)
  replace kl0 := cell_later hb (cell_al _ kl0)
  replace kl1 := cell_later hb (cell_al _ kl1)
  replace kk0 := cell_later hb (cell_al _ kk0)
  replace kk1 := cell_later hb (cell_al _ kk1)
  have kq0 : w21.cell? ⟨w20.heap.size, 0, none⟩ = some (.int .i64 6) := cell_later hb (by go_simp)
  have kq1 : w21.cell? ⟨w20.heap.size, 1, none⟩ = some (.int .i64 9) := cell_later hb (by go_simp)
  have kq2 : w21.cell? ⟨w20.heap.size, 2, none⟩ = some (.int .i64 12) := cell_later hb (by go_simp)
  have kq3 : w21.cell? ⟨w20.heap.size, 3, none⟩ = some (.int .i64 13) := cell_later hb (by go_simp)
  have kq4 : w21.cell? ⟨w20.heap.size, 4, none⟩ = some (.int .i64 0) := cell_later hb (by go_simp)
  have kq5 : w21.cell? ⟨w20.heap.size, 5, none⟩ = some (.int .i64 8) := cell_later hb (by go_simp)
  replace za : w2.heap.size < w21.heap.size := World.block_lt_of_cell? _ _ ka0
  have za_w21 := za
  replace zb : w4.heap.size < w21.heap.size := World.block_lt_of_cell? _ _ kb0
  have zb_w21 := zb
  replace zc : w6.heap.size < w21.heap.size := World.block_lt_of_cell? _ _ kc0
  have zc_w21 := zc
  replace zl : w12.heap.size < w21.heap.size := World.block_lt_of_cell? _ _ kl0
  have zl_w21 := zl
  replace zk : w13.heap.size < w21.heap.size := World.block_lt_of_cell? _ _ kk0
  have zk_w21 := zk
  have zq : w20.heap.size < w21.heap.size := World.block_lt_of_cell? _ _ kq0
  have zq_w21 := zq
  replace hb0 : Below w.heap.size w w21 := (by repeat (first | with_reducible exact Below.refl _ _ | with_reducible assumption | with_reducible refine Below.setCell ?_ (by first | omega | (simp <;> omega)) _ | with_reducible refine balloc ?_ _ | with_reducible refine Below.drew ?_ | with_reducible refine bstep ?_ (by with_reducible assumption)))
  have hs_w21 := hb.size; (try simp only [World.size_alloc, World.size_setCell] at hs_w21)
  clear hb
  clear ht9
  go_wp2_with fail
  refine Calls.mono (table_c _) ?_
  rintro e w22 ⟨v10, rfl, ht10, hb⟩
  have hcx : Below w21.heap.size w21 w22 := (by repeat (first | with_reducible exact Below.refl _ _ | with_reducible assumption | with_reducible refine Below.setCell ?_ (by first | omega | (simp <;> omega)) _ | with_reducible refine balloc ?_ _ | with_reducible refine Below.drew ?_ | with_reducible refine bstep ?_ (by with_reducible assumption)))
  replace hm := hm.below hcx
  clear hcx
  replace ka0 := cell_later hb (cell_al _ ka0)
  replace ka1 := cell_later hb (cell_al _ ka1)
  replace kb0 := cell_later hb (cell_al _ kb0)
  replace kb1 := cell_later hb (cell_al _ kb1)
  replace kc0 := cell_later hb (cell_al _ kc0)
  replace kc1 := cell_later hb (cell_al _ kc1)
  replace kl0 := cell_later hb (cell_al _ kl0)
  replace kl1 := cell_later hb (cell_al _ kl1)
  replace kk0 := cell_later hb (cell_al _ kk0)
  replace kk1 := cell_later hb (cell_al _ kk1)
  replace kq0 := cell_later hb (cell_al _ kq0)
  replace kq1 := cell_later hb (cell_al _ kq1)
  replace kq2 := cell_later hb (cell_al _ kq2)
  replace kq3 := cell_later hb (cell_al _ kq3)
  replace kq4 := cell_later hb (cell_al _ kq4)
  replace kq5 := cell_later hb (cell_al _ kq5)
  have km0 : w22.cell? ⟨w21.heap.size, 0, none⟩ = some (.int .i64 100) := cell_later hb (by go_simp)
  have km1 : w22.cell? ⟨w21.heap.size, 1, none⟩ = some (.int .i64 10) := cell_later hb (by go_simp)
  have km2 : w22.cell? ⟨w21.heap.size, 2, none⟩ = some (.slice pm 3 cm) := cell_later hb (by go_simp)
  replace za : w2.heap.size < w22.heap.size := World.block_lt_of_cell? _ _ ka0
  have za_w22 := za
  replace zb : w4.heap.size < w22.heap.size := World.block_lt_of_cell? _ _ kb0
  have zb_w22 := zb
  replace zc : w6.heap.size < w22.heap.size := World.block_lt_of_cell? _ _ kc0
  have zc_w22 := zc
  replace zl : w12.heap.size < w22.heap.size := World.block_lt_of_cell? _ _ kl0
  have zl_w22 := zl
  replace zk : w13.heap.size < w22.heap.size := World.block_lt_of_cell? _ _ kk0
  have zk_w22 := zk
  replace zq : w20.heap.size < w22.heap.size := World.block_lt_of_cell? _ _ kq0
  have zq_w22 := zq
  have zm : w21.heap.size < w22.heap.size := World.block_lt_of_cell? _ _ km0
  have zm_w22 := zm
  replace hb0 : Below w.heap.size w w22 := (by repeat (first | with_reducible exact Below.refl _ _ | with_reducible assumption | with_reducible refine Below.setCell ?_ (by first | omega | (simp <;> omega)) _ | with_reducible refine balloc ?_ _ | with_reducible refine Below.drew ?_ | with_reducible refine bstep ?_ (by with_reducible assumption)))
  have hs_w22 := hb.size; (try simp only [World.size_alloc, World.size_setCell] at hs_w22)
  clear hb
  go_wp2_with fail
  refine Calls.mono (SA _ v10 (ht10.below (by repeat (first | with_reducible exact Below.refl _ _ | with_reducible assumption | with_reducible refine Below.setCell ?_ (by first | omega | (simp <;> omega)) _ | with_reducible refine balloc ?_ _ | with_reducible refine Below.drew ?_ | with_reducible refine bstep ?_ (by with_reducible assumption))))) ?_
  rintro e w23 ⟨ps, cs, rfl, hs, hb⟩
  have hcx : Below w22.heap.size w22 w23 := (by repeat (first | with_reducible exact Below.refl _ _ | with_reducible assumption | with_reducible refine Below.setCell ?_ (by first | omega | (simp <;> omega)) _ | with_reducible refine balloc ?_ _ | with_reducible refine Below.drew ?_ | with_reducible refine bstep ?_ (by with_reducible assumption)))
  replace hm := hm.below hcx
  replace ht10 := ht10.below hcx
  clear hcx
  replace ka0 := cell_later hb ka0
  replace ka1 := cell_later hb ka1
  replace kb0 := cell_later hb kb0
  replace kb1 := cell_later hb kb1
  replace kc0 := cell_later hb kc0
  replace kc1 := cell_later hb kc1
  replace kl0 := cell_later hb kl0
  replace kl1 := cell_later hb kl1
  replace kk0 := cell_later hb kk0
  replace kk1 := cell_later hb kk1
  replace kq0 := cell_later hb kq0
  replace kq1 := cell_later hb kq1
  replace kq2 := cell_later hb kq2
  replace kq3 := cell_later hb kq3
  replace kq4 := cell_later hb kq4
  replace kq5 := cell_later hb kq5
  replace km0 := cell_later hb km0
  replace km1 := cell_later hb km1
  replace km2 := cell_later hb km2
  replace za : w2.heap.size < w23.heap.size := World.block_lt_of_cell? _ _ ka0
  have za_w23 := za
  replace zb : w4.heap.size < w23.heap.size := World.block_lt_of_cell? _ _ kb0
  have zb_w23 := zb
  replace zc : w6.heap.size < w23.heap.size := World.block_lt_of_cell? _ _ kc0
  have zc_w23 := zc
  replace zl : w12.heap.size < w23.heap.size := World.block_lt_of_cell? _ _ kl0
  have zl_w23 := zl
  replace zk : w13.heap.size < w23.heap.size := World.block_lt_of_cell? _ _ kk0
  have zk_w23 := zk
  replace zq : w20.heap.size < w23.heap.size := World.block_lt_of_cell? _ _ kq0
  have zq_w23 := zq
  replace zm : w21.heap.size < w23.heap.size := World.block_lt_of_cell? _ _ km0
  have zm_w23 := zm
  replace hb0 : Below w.heap.size w w23 := (by repeat (first | with_reducible exact Below.refl _ _ | with_reducible assumption | with_reducible refine Below.setCell ?_ (by first | omega | (simp <;> omega)) _ | with_reducible refine balloc ?_ _ | with_reducible refine Below.drew ?_ | with_reducible refine bstep ?_ (by with_reducible assumption)))
  have hs_w23 : w22.heap.size ≤ w23.heap.size := hb.size
  clear hb
  clear ht10
  go_wp2_with fail
  refine Calls.mono (SQ _ _ [(6, 7), (12, 12), (8, 8)] _ (hm.below (by repeat (first | with_reducible exact Below.refl _ _ | with_reducible assumption | with_reducible refine Below.setCell ?_ (by first | omega | (simp <;> omega)) _ | with_reducible refine balloc ?_ _ | with_reducible refine Below.drew ?_ | with_reducible refine bstep ?_ (by with_reducible assumption)))) (spans_lit2 _ _ [(6, 7), (12, 12), (8, 8)] #[(.int .i64 6), (.int .i64 7), (.int .i64 12), (.int .i64 12), (.int .i64 8), (.int .i64 8)] rfl 26 3 rfl (by omega))) ?_
  rintro e w24 ⟨rfl, hb⟩
  have hcx : Below w23.heap.size w23 w24 := (by repeat (first | with_reducible exact Below.refl _ _ | with_reducible assumption | with_reducible refine Below.setCell ?_ (by first | omega | (simp <;> omega)) _ | with_reducible refine balloc ?_ _ | with_reducible refine Below.drew ?_ | with_reducible refine bstep ?_ (by with_reducible assumption)))
  replace hm := hm.below hcx
  replace hs := hs.below hcx
  clear hcx
  replace ka0 := cell_later hb (cell_al _ (cell_al _ ka0))
  replace ka1 := cell_later hb (cell_al _ (cell_al _ ka1))
  replace kb0 := cell_later hb (cell_al _ (cell_al _ kb0))
  replace kb1 := cell_later hb (cell_al _ (cell_al _ kb1))
  replace kc0 := cell_later hb (cell_al _ (cell_al _ kc0))
  replace kc1 := cell_later hb (cell_al _ (cell_al _ kc1))
  replace kl0 := cell_later hb (cell_al _ (cell_al _ kl0))
  replace kl1 := cell_later hb (cell_al _ (cell_al _ kl1))
  replace kk0 := cell_later hb (cell_al _ (cell_al _ kk0))
  replace kk1 := cell_later hb (cell_al _ (cell_al _ kk1))
  replace kq0 := cell_later hb (cell_al _ (cell_al _ kq0))
  replace kq1 := cell_later hb (cell_al _ (cell_al _ kq1))
  replace kq2 := cell_later hb (cell_al _ (cell_al _ kq2))
  replace kq3 := cell_later hb (cell_al _ (cell_al _ kq3))
  replace kq4 := cell_later hb (cell_al _ (cell_al _ kq4))
  replace kq5 := cell_later hb (cell_al _ (cell_al _ kq5))
  replace km0 := cell_later hb (cell_al _ (cell_al _ km0))
  replace km1 := cell_later hb (cell_al _ (cell_al _ km1))
  replace km2 := cell_later hb (cell_al _ (cell_al _ km2))
  have ks0 : w24.cell? ⟨w23.heap.size, 0, none⟩ = some (.int .i64 100) := cell_later hb (by go_simp)
  have ks1 : w24.cell? ⟨w23.heap.size, 1, none⟩ = some (.int .i64 10) := cell_later hb (by go_simp)
  have ks2 : w24.cell? ⟨w23.heap.size, 2, none⟩ = some (.slice ps 3 cs) := cell_later hb (by go_simp)
  have kg0 : w24.cell? ⟨w23.heap.size + 1, 0, none⟩ = some (.int .i64 6) := cell_later hb (by go_simp)
  have kg1 : w24.cell? ⟨w23.heap.size + 1, 1, none⟩ = some (.int .i64 7) := cell_later hb (by go_simp)
  have kg2 : w24.cell? ⟨w23.heap.size + 1, 2, none⟩ = some (.int .i64 12) := cell_later hb (by go_simp)
  have kg3 : w24.cell? ⟨w23.heap.size + 1, 3, none⟩ = some (.int .i64 12) := cell_later hb (by go_simp)
  have kg4 : w24.cell? ⟨w23.heap.size + 1, 4, none⟩ = some (.int .i64 8) := cell_later hb (by go_simp)
  have kg5 : w24.cell? ⟨w23.heap.size + 1, 5, none⟩ = some (.int .i64 8) := cell_later hb (by go_simp)
  replace za : w2.heap.size < w24.heap.size := World.block_lt_of_cell? _ _ ka0
  have za_w24 := za
  replace zb : w4.heap.size < w24.heap.size := World.block_lt_of_cell? _ _ kb0
  have zb_w24 := zb
  replace zc : w6.heap.size < w24.heap.size := World.block_lt_of_cell? _ _ kc0
  have zc_w24 := zc
  replace zl : w12.heap.size < w24.heap.size := World.block_lt_of_cell? _ _ kl0
  have zl_w24 := zl
  replace zk : w13.heap.size < w24.heap.size := World.block_lt_of_cell? _ _ kk0
  have zk_w24 := zk
  replace zq : w20.heap.size < w24.heap.size := World.block_lt_of_cell? _ _ kq0
  have zq_w24 := zq
  replace zm : w21.heap.size < w24.heap.size := World.block_lt_of_cell? _ _ km0
  have zm_w24 := zm
  have zs : w23.heap.size < w24.heap.size := World.block_lt_of_cell? _ _ ks0
  have zs_w24 := zs
  have zg : w23.heap.size + 1 < w24.heap.size := World.block_lt_of_cell? _ _ kg0
  have zg_w24 := zg
  replace hb0 : Below w.heap.size w w24 := (by repeat (first | with_reducible exact Below.refl _ _ | with_reducible assumption | with_reducible refine Below.setCell ?_ (by first | omega | (simp <;> omega)) _ | with_reducible refine balloc ?_ _ | with_reducible refine Below.drew ?_ | with_reducible refine bstep ?_ (by with_reducible assumption)))
  have hs_w24 := hb.size; (try simp only [World.size_alloc, World.size_setCell] at hs_w24)
  clear hb
  go_wp2_with fail
  refine Calls.mono (SQ _ _ [(4, 8), (8, 13), (7, 9)] _ (hs.below (by repeat (first | with_reducible exact Below.refl _ _ | with_reducible assumption | with_reducible refine Below.setCell ?_ (by first | omega | (simp <;> omega)) _ | with_reducible refine balloc ?_ _ | with_reducible refine Below.drew ?_ | with_reducible refine bstep ?_ (by with_reducible assumption)))) (spans_lit _ [(4, 8), (8, 13), (7, 9)] #[(.int .i64 4), (.int .i64 8), (.int .i64 8), (.int .i64 13), (.int .i64 7), (.int .i64 9)] rfl 26 3 rfl (by omega))) ?_
  rintro e w25 ⟨rfl, hb⟩
  have hcx : Below w24.heap.size w24 w25 := (by repeat (first | with_reducible exact Below.refl _ _ | with_reducible assumption | with_reducible refine Below.setCell ?_ (by first | omega | (simp <;> omega)) _ | with_reducible refine balloc ?_ _ | with_reducible refine Below.drew ?_ | with_reducible refine bstep ?_ (by with_reducible assumption)))
  replace hm := hm.below hcx
  replace hs := hs.below hcx
  clear hcx
  replace ka0 := cell_later hb (cell_al _ ka0)
  replace ka1 := cell_later hb (cell_al _ ka1)
  replace kb0 := cell_later hb (cell_al _ kb0)
  replace kb1 := cell_later hb (cell_al _ kb1)
  replace kc0 := cell_later hb (cell_al _ kc0)
  replace kc1 := cell_later hb (cell_al _ kc1)
  replace kl0 := cell_later hb (cell_al _ kl0)
  replace kl1 := cell_later hb (cell_al _ kl1)
  replace kk0 := cell_later hb (cell_al _ kk0)
  replace kk1 := cell_later hb (cell_al _ kk1)
  replace kq0 := cell_later hb (cell_al _ kq0)
  replace kq1 := cell_later hb (cell_al _ kq1)
  replace kq2 := cell_later hb (cell_al _ kq2)
  replace kq3 := cell_later hb (cell_al _ kq3)
  replace kq4 := cell_later hb (cell_al _ kq4)
  replace kq5 := cell_later hb (cell_al _ kq5)
  replace km0 := cell_later hb (cell_al _ km0)
  replace km1 := cell_later hb (cell_al _ km1)
  replace km2 := cell_later hb (cell_al _ km2)
  replace ks0 := cell_later hb (cell_al _ ks0)
  replace ks1 := cell_later hb (cell_al _ ks1)
  replace ks2 := cell_later hb (cell_al _ ks2)
  replace kg0 := cell_later hb (cell_al _ kg0)
  replace kg1 := cell_later hb (cell_al _ kg1)
  replace kg2 := cell_later hb (cell_al _ kg2)
  replace kg3 := cell_later hb (cell_al _ kg3)
  replace kg4 := cell_later hb (cell_al _ kg4)
  replace kg5 := cell_later hb (cell_al _ kg5)
  have kf0 : w25.cell? ⟨w24.heap.size, 0, none⟩ = some (.int .i64 4) := cell_later hb (by go_simp)
  have kf1 : w25.cell? ⟨w24.heap.size, 1, none⟩ = some (.int .i64 8) := cell_later hb (by go_simp)
  have kf2 : w25.cell? ⟨w24.heap.size, 2, none⟩ = some (.int .i64 8) := cell_later hb (by go_simp)
  have kf3 : w25.cell? ⟨w24.heap.size, 3, none⟩ = some (.int .i64 13) := cell_later hb (by go_simp)
  have kf4 : w25.cell? ⟨w24.heap.size, 4, none⟩ = some (.int .i64 7) := cell_later hb (by go_simp)
  have kf5 : w25.cell? ⟨w24.heap.size, 5, none⟩ = some (.int .i64 9) := cell_later hb (by go_simp)
  replace za : w2.heap.size < w25.heap.size := World.block_lt_of_cell? _ _ ka0
  have za_w25 := za
  replace zb : w4.heap.size < w25.heap.size := World.block_lt_of_cell? _ _ kb0
  have zb_w25 := zb
  replace zc : w6.heap.size < w25.heap.size := World.block_lt_of_cell? _ _ kc0
  have zc_w25 := zc
  replace zl : w12.heap.size < w25.heap.size := World.block_lt_of_cell? _ _ kl0
  have zl_w25 := zl
  replace zk : w13.heap.size < w25.heap.size := World.block_lt_of_cell? _ _ kk0
  have zk_w25 := zk
  replace zq : w20.heap.size < w25.heap.size := World.block_lt_of_cell? _ _ kq0
  have zq_w25 := zq
  replace zm : w21.heap.size < w25.heap.size := World.block_lt_of_cell? _ _ km0
  have zm_w25 := zm
  replace zs : w23.heap.size < w25.heap.size := World.block_lt_of_cell? _ _ ks0
  have zs_w25 := zs
  replace zg : w23.heap.size + 1 < w25.heap.size := World.block_lt_of_cell? _ _ kg0
  have zg_w25 := zg
  have zf : w24.heap.size < w25.heap.size := World.block_lt_of_cell? _ _ kf0
  have zf_w25 := zf
  replace hb0 : Below w.heap.size w w25 := (by repeat (first | with_reducible exact Below.refl _ _ | with_reducible assumption | with_reducible refine Below.setCell ?_ (by first | omega | (simp <;> omega)) _ | with_reducible refine balloc ?_ _ | with_reducible refine Below.drew ?_ | with_reducible refine bstep ?_ (by with_reducible assumption)))
  have hs_w25 := hb.size; (try simp only [World.size_alloc, World.size_setCell] at hs_w25)
  clear hb
  clear hm
  clear hs
  go_wp2_with fail
  refine Calls.mono (table_c _) ?_
  rintro e w26 ⟨v11, rfl, ht11, hb⟩
  replace ka0 := cell_later hb ka0
  replace ka1 := cell_later hb ka1
  replace kb0 := cell_later hb kb0
  replace kb1 := cell_later hb kb1
  replace kc0 := cell_later hb kc0
  replace kc1 := cell_later hb kc1
  replace kl0 := cell_later hb kl0
  replace kl1 := cell_later hb kl1
  replace kk0 := cell_later hb kk0
  replace kk1 := cell_later hb kk1
  replace kq0 := cell_later hb kq0
  replace kq1 := cell_later hb kq1
  replace kq2 := cell_later hb kq2
  replace kq3 := cell_later hb kq3
  replace kq4 := cell_later hb kq4
  replace kq5 := cell_later hb kq5
  replace km0 := cell_later hb km0
  replace km1 := cell_later hb km1
  replace km2 := cell_later hb km2
  replace ks0 := cell_later hb ks0
  replace ks1 := cell_later hb ks1
  replace ks2 := cell_later hb ks2
  replace kg0 := cell_later hb kg0
  replace kg1 := cell_later hb kg1
  replace kg2 := cell_later hb kg2
  replace kg3 := cell_later hb kg3
  replace kg4 := cell_later hb kg4
  replace kg5 := cell_later hb kg5
  replace kf0 := cell_later hb kf0
  replace kf1 := cell_later hb kf1
  replace kf2 := cell_later hb kf2
  replace kf3 := cell_later hb kf3
  replace kf4 := cell_later hb kf4
  replace kf5 := cell_later hb kf5
  replace za : w2.heap.size < w26.heap.size := World.block_lt_of_cell? _ _ ka0
  have za_w26 := za
  replace zb : w4.heap.size < w26.heap.size := World.block_lt_of_cell? _ _ kb0
  have zb_w26 := zb
  replace zc : w6.heap.size < w26.heap.size := World.block_lt_of_cell? _ _ kc0
  have zc_w26 := zc
  replace zl : w12.heap.size < w26.heap.size := World.block_lt_of_cell? _ _ kl0
  have zl_w26 := zl
  replace zk : w13.heap.size < w26.heap.size := World.block_lt_of_cell? _ _ kk0
  have zk_w26 := zk
  replace zq : w20.heap.size < w26.heap.size := World.block_lt_of_cell? _ _ kq0
  have zq_w26 := zq
  replace zm : w21.heap.size < w26.heap.size := World.block_lt_of_cell? _ _ km0
  have zm_w26 := zm
  replace zs : w23.heap.size < w26.heap.size := World.block_lt_of_cell? _ _ ks0
  have zs_w26 := zs
  replace zg : w23.heap.size + 1 < w26.heap.size := World.block_lt_of_cell? _ _ kg0
  have zg_w26 := zg
  replace zf : w24.heap.size < w26.heap.size := World.block_lt_of_cell? _ _ kf0
  have zf_w26 := zf
  replace hb0 : Below w.heap.size w w26 := (by repeat (first | with_reducible exact Below.refl _ _ | with_reducible assumption | with_reducible refine Below.setCell ?_ (by first | omega | (simp <;> omega)) _ | with_reducible refine balloc ?_ _ | with_reducible refine Below.drew ?_ | with_reducible refine bstep ?_ (by with_reducible assumption)))
  have hs_w26 : w25.heap.size ≤ w26.heap.size := hb.size
  clear hb
  go_wp2_with fail
  refine Calls.mono (VT _ v11 (ht11.below (by repeat (first | with_reducible exact Below.refl _ _ | with_reducible assumption | with_reducible refine Below.setCell ?_ (by first | omega | (simp <;> omega)) _ | with_reducible refine balloc ?_ _ | with_reducible refine Below.drew ?_ | with_reducible refine bstep ?_ (by with_reducible assumption))))) ?_
  rintro e w27 ⟨rfl, hb⟩
  have hcx : Below w26.heap.size w26 w27 := (by repeat (first | with_reducible exact Below.refl _ _ | with_reducible assumption | with_reducible refine Below.setCell ?_ (by first | omega | (simp <;> omega)) _ | with_reducible refine balloc ?_ _ | with_reducible refine Below.drew ?_ | with_reducible refine bstep ?_ (by with_reducible assumption)))
  replace ht11 := ht11.below hcx
  clear hcx
  replace ka0 := cell_later hb ka0
  replace ka1 := cell_later hb ka1
  replace kb0 := cell_later hb kb0
  replace kb1 := cell_later hb kb1
  replace kc0 := cell_later hb kc0
  replace kc1 := cell_later hb kc1
  replace kl0 := cell_later hb kl0
  replace kl1 := cell_later hb kl1
  replace kk0 := cell_later hb kk0
  replace kk1 := cell_later hb kk1
  replace kq0 := cell_later hb kq0
  replace kq1 := cell_later hb kq1
  replace kq2 := cell_later hb kq2
  replace kq3 := cell_later hb kq3
  replace kq4 := cell_later hb kq4
  replace kq5 := cell_later hb kq5
  replace km0 := cell_later hb km0
  replace km1 := cell_later hb km1
  replace km2 := cell_later hb km2
  replace ks0 := cell_later hb ks0
  replace ks1 := cell_later hb ks1
  replace ks2 := cell_later hb ks2
  replace kg0 := cell_later hb kg0
  replace kg1 := cell_later hb kg1
  replace kg2 := cell_later hb kg2
  replace kg3 := cell_later hb kg3
  replace kg4 := cell_later hb kg4
  replace kg5 := cell_later hb kg5
  replace kf0 := cell_later hb kf0
  replace kf1 := cell_later hb kf1
  replace kf2 := cell_later hb kf2
  replace kf3 := cell_later hb kf3
  replace kf4 := cell_later hb kf4
  replace kf5 := cell_later hb kf5
  replace za : w2.heap.size < w27.heap.size := World.block_lt_of_cell? _ _ ka0
  have za_w27 := za
  replace zb : w4.heap.size < w27.heap.size := World.block_lt_of_cell? _ _ kb0
  have zb_w27 := zb
  replace zc : w6.heap.size < w27.heap.size := World.block_lt_of_cell? _ _ kc0
  have zc_w27 := zc
  replace zl : w12.heap.size < w27.heap.size := World.block_lt_of_cell? _ _ kl0
  have zl_w27 := zl
  replace zk : w13.heap.size < w27.heap.size := World.block_lt_of_cell? _ _ kk0
  have zk_w27 := zk
  replace zq : w20.heap.size < w27.heap.size := World.block_lt_of_cell? _ _ kq0
  have zq_w27 := zq
  replace zm : w21.heap.size < w27.heap.size := World.block_lt_of_cell? _ _ km0
  have zm_w27 := zm
  replace zs : w23.heap.size < w27.heap.size := World.block_lt_of_cell? _ _ ks0
  have zs_w27 := zs
  replace zg : w23.heap.size + 1 < w27.heap.size := World.block_lt_of_cell? _ _ kg0
  have zg_w27 := zg
  replace zf : w24.heap.size < w27.heap.size := World.block_lt_of_cell? _ _ kf0
  have zf_w27 := zf
  replace hb0 : Below w.heap.size w w27 := (by repeat (first | with_reducible exact Below.refl _ _ | with_reducible assumption | with_reducible refine Below.setCell ?_ (by first | omega | (simp <;> omega)) _ | with_reducible refine balloc ?_ _ | with_reducible refine Below.drew ?_ | with_reducible refine bstep ?_ (by with_reducible assumption)))
  have hs_w27 : w26.heap.size ≤ w27.heap.size := hb.size
  clear hb
  clear ht11
  go_wp2_with fail
  refine Calls.mono (VZ _) ?_
  rintro e w28 ⟨rfl, hb⟩
  replace ka0 := cell_later hb ka0
  replace ka1 := cell_later hb ka1
  replace kb0 := cell_later hb kb0
  replace kb1 := cell_later hb kb1
  replace kc0 := cell_later hb kc0
  replace kc1 := cell_later hb kc1
  replace kl0 := cell_later hb kl0
  replace kl1 := cell_later hb kl1
  replace kk0 := cell_later hb kk0
  replace kk1 := cell_later hb kk1
  replace kq0 := cell_later hb kq0
  replace kq1 := cell_later hb kq1
  replace kq2 := cell_later hb kq2
  replace kq3 := cell_later hb kq3
  replace kq4 := cell_later hb kq4
  replace kq5 := cell_later hb kq5
  replace km0 := cell_later hb km0
  replace km1 := cell_later hb km1
  replace km2 := cell_later hb km2
  replace ks0 := cell_later hb ks0
  replace ks1 := cell_later hb ks1
  replace ks2 := cell_later hb ks2
  replace kg0 := cell_later hb kg0
  replace kg1 := cell_later hb kg1
  replace kg2 := cell_later hb kg2
  replace kg3 := cell_later hb kg3
  replace kg4 := cell_later hb kg4
  replace kg5 := cell_later hb kg5
  replace kf0 := cell_later hb kf0
  replace kf1 := cell_later hb kf1
  replace kf2 := cell_later hb kf2
  replace kf3 := cell_later hb kf3
  replace kf4 := cell_later hb kf4
  replace kf5 := cell_later hb kf5
  replace za : w2.heap.size < w28.heap.size := World.block_lt_of_cell? _ _ ka0
  have za_w28 := za
  replace zb : w4.heap.size < w28.heap.size := World.block_lt_of_cell? _ _ kb0
  have zb_w28 := zb
  replace zc : w6.heap.size < w28.heap.size := World.block_lt_of_cell? _ _ kc0
  have zc_w28 := zc
  replace zl : w12.heap.size < w28.heap.size := World.block_lt_of_cell? _ _ kl0
  have zl_w28 := zl
  replace zk : w13.heap.size < w28.heap.size := World.block_lt_of_cell? _ _ kk0
  have zk_w28 := zk
  replace zq : w20.heap.size < w28.heap.size := World.block_lt_of_cell? _ _ kq0
  have zq_w28 := zq
  replace zm : w21.heap.size < w28.heap.size := World.block_lt_of_cell? _ _ km0
  have zm_w28 := zm
  replace zs : w23.heap.size < w28.heap.size := World.block_lt_of_cell? _ _ ks0
  have zs_w28 := zs
  replace zg : w23.heap.size + 1 < w28.heap.size := World.block_lt_of_cell? _ _ kg0
  have zg_w28 := zg
  replace zf : w24.heap.size < w28.heap.size := World.block_lt_of_cell? _ _ kf0
  have zf_w28 := zf
  replace hb0 : Below w.heap.size w w28 := (by repeat (first | with_reducible exact Below.refl _ _ | with_reducible assumption | with_reducible refine Below.setCell ?_ (by first | omega | (simp <;> omega)) _ | with_reducible refine balloc ?_ _ | with_reducible refine Below.drew ?_ | with_reducible refine bstep ?_ (by with_reducible assumption)))
  have hs_w28 : w27.heap.size ≤ w28.heap.size := hb.size
  clear hb
  go_wp2
  go_ret
  exact ⟨rfl, (by repeat (first | with_reducible exact Below.refl _ _ | with_reducible assumption | with_reducible refine Below.setCell ?_ (by first | omega | (simp <;> omega)) _ | with_reducible refine balloc ?_ _ | with_reducible refine Below.drew ?_ | with_reducible refine bstep ?_ (by with_reducible assumption)))⟩


end Go.Proofs.Ytemogomligbgiaa.Ti
