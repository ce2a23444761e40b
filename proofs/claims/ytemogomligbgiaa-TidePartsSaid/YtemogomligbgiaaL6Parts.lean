/- L6Parts: the law Parts. -/
import Derived.Test.YtemogomligbgiaaTidY
import Derived.Test.YtemogomligbgiaaRows
import Derived.WalkKit
import Derived.WalkSpells
import Derived.WalkLawsBesides
import Derived.Lib.Hide
import Derived.Deep.QuietTactic
import Derived.BigQuiet
import Derived.RegionTactic
import Derived.ChangeAlike
import Derived.BigRegion
import Derived.Deep.RegionHeld3
import Derived.Deep.RegionWith
import Derived.Outline
import Derived.IntWalk
import Derived.Deep.DeepCutAuto
import Derived.LoopTactic
namespace Go.Proofs.Ytemogomligbgiaa.Ti
open Go.RowKit Sp
set_option linter.unusedSimpArgs false
set_option linter.unusedVariables false

set_option maxRecDepth 100000 in
set_option maxHeartbeats 6400000 in
theorem parts_w (w : World) (s p : Int) (u : Value) (l : List Pr) (hsp : Spans w u l) (x y z : Int) : Calls Try.prog 4 #[.agg #[(.int .i64 s), (.int .i64 p), u], (.int .i64 x), (.int .i64 y), (.int .i64 z)] w (Ret w (.bool true)) := by
  have F1 := fun W h => few_c s p u l W (hsp.below h)
  have HX := fun W h => Height_c s p u l x y W (hsp.below h)
  have HY := fun W h => Height_c s p u l y z W (hsp.below h)
  have HZ := fun W h => Height_c s p u l x z W (hsp.below h)
  have PA : hE s p l x y = 0 → hE s p l y z = 0 → hE s p l x z = 0 ∧ hV s p l x z = jn (hV s p l x y) (hV s p l y z) ∧ okH (hV s p l x y) = true ∧ okH (hV s p l y z) = true := fun e f => by
    obtain ⟨⟨v1, x0, y0, xy⟩, a1, a2, a3⟩ := hE_zero e
    obtain ⟨⟨_, _, z0, yz⟩, b1, b2, b3⟩ := hE_zero f
    obtain ⟨_, ⟨hp1, _⟩, _, _, vall⟩ := vaT_iff.1 v1
    obtain ⟨c1, c2⟩ := hE_of (u := z) v1 x0.1 (by omega) z0.2 a1 b2
    rw [c2, a3, b3]
    exact ⟨c1, du_parts (by omega) a1 xy yz b2, duT_ok vall _, duT_ok vall _⟩
  generalize fewB p l = few at *
  generalize hE s p l x y = e1 at *
  generalize hE s p l y z = e2 at *
  generalize hE s p l x z = e3 at *
  generalize hV s p l x y = a at *
  generalize hV s p l y z = b at *
  generalize hV s p l x z = c at *
  obtain ⟨a1, a2⟩ := a
  obtain ⟨b1, b2⟩ := b
  obtain ⟨c1, c2⟩ := c
  obtain ⟨⟨pp, cap, rfl, hn, hcap, hp⟩, hl⟩ := hsp
  clear hn hp
  dsimp only at *
  cases few
  · go_enter Try.func4, Try.ntmps4
    go_wp2_with fail
    refine Calls.mono (head_c _) ?_
    rintro e w1 ⟨rfl, hb⟩
    have kt0 : w1.cell? ⟨w.heap.size, 0, none⟩ = some (.int .i64 s) := cell_later hb (by go_simp)
    have kt1 : w1.cell? ⟨w.heap.size, 1, none⟩ = some (.int .i64 p) := cell_later hb (by go_simp)
    have kt2 : w1.cell? ⟨w.heap.size, 2, none⟩ = some (.slice pp l.length cap) := cell_later hb (by go_simp)
    have zt : w.heap.size < w1.heap.size := World.block_lt_of_cell? _ _ kt0
    have zt_w1 := zt
    have hb0 : Below w.heap.size w w1 := (by repeat (first | with_reducible exact Below.refl _ _ | with_reducible assumption | with_reducible refine Below.setCell ?_ (by first | omega | (simp <;> omega)) _ | with_reducible refine balloc ?_ _ | with_reducible refine Below.drew ?_ | with_reducible refine bstep ?_ (by with_reducible assumption)))
    have hs_w1 := hb.size; (try simp only [World.size_alloc, World.size_setCell] at hs_w1)
    clear hb
    go_wp2_with fail
    refine Calls.mono (F1 _ (by repeat (first | with_reducible exact Below.refl _ _ | with_reducible assumption | with_reducible refine Below.setCell ?_ (by first | omega | (simp <;> omega)) _ | with_reducible refine balloc ?_ _ | with_reducible refine Below.drew ?_ | with_reducible refine bstep ?_ (by with_reducible assumption)))) ?_
    rintro e w2 ⟨rfl, hb⟩
    replace kt0 := cell_later hb kt0
    replace kt1 := cell_later hb kt1
    replace kt2 := cell_later hb kt2
    replace zt : w.heap.size < w2.heap.size := World.block_lt_of_cell? _ _ kt0
    have zt_w2 := zt
    replace hb0 : Below w.heap.size w w2 := (by repeat (first | with_reducible exact Below.refl _ _ | with_reducible assumption | with_reducible refine Below.setCell ?_ (by first | omega | (simp <;> omega)) _ | with_reducible refine balloc ?_ _ | with_reducible refine Below.drew ?_ | with_reducible refine bstep ?_ (by with_reducible assumption)))
    have hs_w2 : w1.heap.size ≤ w2.heap.size := hb.size
    clear hb
    go_wp2
    go_ret
    exact ⟨rfl, (by repeat (first | with_reducible exact Below.refl _ _ | with_reducible assumption | with_reducible refine Below.setCell ?_ (by first | omega | (simp <;> omega)) _ | with_reducible refine balloc ?_ _ | with_reducible refine Below.drew ?_ | with_reducible refine bstep ?_ (by with_reducible assumption)))⟩
  · by_cases h1 : e1 = 0
    · subst h1
      by_cases h2 : e2 = 0
      · subst h2
        obtain ⟨rfl, hc, oa, ob⟩ := PA rfl rfl
        simp only [jn, Prod.mk.injEq] at hc
        obtain ⟨rfl, rfl⟩ := hc
        have oa1 := okH_iff.1 oa
        have ob1 := okH_iff.1 ob
        dsimp only at oa1 ob1
        have va : vE 1000000000000 a1 a2 = true := by rw [vE_iff]; omega
        have vb : vE 1000000000000 b1 b2 = true := by rw [vE_iff]; omega
        have vc : vE 1000000000000 (min a1 b1) (max a2 b2) = true := by rw [vE_iff]; omega
        have JJ : ∀ w, Calls Try.prog 29 #[.agg #[(.int .i64 a1), (.int .i64 a2)], .agg #[(.int .i64 b1), (.int .i64 b2)]] w (Ret w (.tuple #[.agg #[(.int .i64 (min a1 b1)), (.int .i64 (max a2 b2))], (.int .i64 0)])) := fun w => by have := Sp.Join_c a1 a2 b1 b2 w; simpa [vJoin, va, vb, selI, erv] using this
        have W1 : ∀ w, Calls Try.prog 30 #[.agg #[(.int .i64 a1), (.int .i64 a2)], .agg #[(.int .i64 (min a1 b1)), (.int .i64 (max a2 b2))]] w (Ret w (.tuple #[(.bool true), (.int .i64 0)])) := fun w => by have := Sp.Within_c a1 a2 (min a1 b1) (max a2 b2) w; rw [show wI a1 a2 (min a1 b1) (max a2 b2) = true by rw [wI_iff]; omega] at this; simpa [vWithin, va, vc, selB, erv] using this
        have W2 : ∀ w, Calls Try.prog 30 #[.agg #[(.int .i64 b1), (.int .i64 b2)], .agg #[(.int .i64 (min a1 b1)), (.int .i64 (max a2 b2))]] w (Ret w (.tuple #[(.bool true), (.int .i64 0)])) := fun w => by have := Sp.Within_c b1 b2 (min a1 b1) (max a2 b2) w; rw [show wI b1 b2 (min a1 b1) (max a2 b2) = true by rw [wI_iff]; omega] at this; simpa [vWithin, vb, vc, selB, erv] using this
        clear va vb vc oa ob oa1 ob1 PA
        generalize min a1 b1 = c1 at *
        generalize max a2 b2 = c2 at *
        go_enter Try.func4, Try.ntmps4
        go_wp2_with fail
        refine Calls.mono (head_c _) ?_
        rintro e w1 ⟨rfl, hb⟩
        have kt0 : w1.cell? ⟨w.heap.size, 0, none⟩ = some (.int .i64 s) := cell_later hb (by go_simp)
        have kt1 : w1.cell? ⟨w.heap.size, 1, none⟩ = some (.int .i64 p) := cell_later hb (by go_simp)
        have kt2 : w1.cell? ⟨w.heap.size, 2, none⟩ = some (.slice pp l.length cap) := cell_later hb (by go_simp)
        have zt : w.heap.size < w1.heap.size := World.block_lt_of_cell? _ _ kt0
        have zt_w1 := zt
        have hb0 : Below w.heap.size w w1 := (by repeat (first | with_reducible exact Below.refl _ _ | with_reducible assumption | with_reducible refine Below.setCell ?_ (by first | omega | (simp <;> omega)) _ | with_reducible refine balloc ?_ _ | with_reducible refine Below.drew ?_ | with_reducible refine bstep ?_ (by with_reducible assumption)))
        have hs_w1 := hb.size; (try simp only [World.size_alloc, World.size_setCell] at hs_w1)
        clear hb
        go_wp2_with fail
        refine Calls.mono (F1 _ (by repeat (first | with_reducible exact Below.refl _ _ | with_reducible assumption | with_reducible refine Below.setCell ?_ (by first | omega | (simp <;> omega)) _ | with_reducible refine balloc ?_ _ | with_reducible refine Below.drew ?_ | with_reducible refine bstep ?_ (by with_reducible assumption)))) ?_
        rintro e w2 ⟨rfl, hb⟩
        replace kt0 := cell_later hb kt0
        replace kt1 := cell_later hb kt1
        replace kt2 := cell_later hb kt2
        replace zt : w.heap.size < w2.heap.size := World.block_lt_of_cell? _ _ kt0
        have zt_w2 := zt
        replace hb0 : Below w.heap.size w w2 := (by repeat (first | with_reducible exact Below.refl _ _ | with_reducible assumption | with_reducible refine Below.setCell ?_ (by first | omega | (simp <;> omega)) _ | with_reducible refine balloc ?_ _ | with_reducible refine Below.drew ?_ | with_reducible refine bstep ?_ (by with_reducible assumption)))
        have hs_w2 : w1.heap.size ≤ w2.heap.size := hb.size
        clear hb
        go_wp2_with fail
        refine Calls.mono (HX _ (by repeat (first | with_reducible exact Below.refl _ _ | with_reducible assumption | with_reducible refine Below.setCell ?_ (by first | omega | (simp <;> omega)) _ | with_reducible refine balloc ?_ _ | with_reducible refine Below.drew ?_ | with_reducible refine bstep ?_ (by with_reducible assumption)))) ?_
        rintro e w3 ⟨rfl, hb⟩
        replace kt0 := cell_later hb kt0
        replace kt1 := cell_later hb kt1
        replace kt2 := cell_later hb kt2
        replace zt : w.heap.size < w3.heap.size := World.block_lt_of_cell? _ _ kt0
        have zt_w3 := zt
        replace hb0 : Below w.heap.size w w3 := (by repeat (first | with_reducible exact Below.refl _ _ | with_reducible assumption | with_reducible refine Below.setCell ?_ (by first | omega | (simp <;> omega)) _ | with_reducible refine balloc ?_ _ | with_reducible refine Below.drew ?_ | with_reducible refine bstep ?_ (by with_reducible assumption)))
        have hs_w3 : w2.heap.size ≤ w3.heap.size := hb.size
        clear hb
        go_wp2_with fail
        refine Calls.mono (HY _ (by repeat (first | with_reducible exact Below.refl _ _ | with_reducible assumption | with_reducible refine Below.setCell ?_ (by first | omega | (simp <;> omega)) _ | with_reducible refine balloc ?_ _ | with_reducible refine Below.drew ?_ | with_reducible refine bstep ?_ (by with_reducible assumption)))) ?_
        rintro e w4 ⟨rfl, hb⟩
        replace kt0 := cell_later hb (cell_al _ kt0)
        replace kt1 := cell_later hb (cell_al _ kt1)
        replace kt2 := cell_later hb (cell_al _ kt2)
        have ka0 : w4.cell? ⟨w3.heap.size, 0, none⟩ = some (.int .i64 a1) := cell_later hb (by go_simp)
        have ka1 : w4.cell? ⟨w3.heap.size, 1, none⟩ = some (.int .i64 a2) := cell_later hb (by go_simp)
        replace zt : w.heap.size < w4.heap.size := World.block_lt_of_cell? _ _ kt0
        have zt_w4 := zt
        have za : w3.heap.size < w4.heap.size := World.block_lt_of_cell? _ _ ka0
        have za_w4 := za
        replace hb0 : Below w.heap.size w w4 := (by repeat (first | with_reducible exact Below.refl _ _ | with_reducible assumption | with_reducible refine Below.setCell ?_ (by first | omega | (simp <;> omega)) _ | with_reducible refine balloc ?_ _ | with_reducible refine Below.drew ?_ | with_reducible refine bstep ?_ (by with_reducible assumption)))
        have hs_w4 := hb.size; (try simp only [World.size_alloc, World.size_setCell] at hs_w4)
        clear hb
        go_wp2_with fail
        refine Calls.mono (HZ _ (by repeat (first | with_reducible exact Below.refl _ _ | with_reducible assumption | with_reducible refine Below.setCell ?_ (by first | omega | (simp <;> omega)) _ | with_reducible refine balloc ?_ _ | with_reducible refine Below.drew ?_ | with_reducible refine bstep ?_ (by with_reducible assumption)))) ?_
        rintro e w5 ⟨rfl, hb⟩
        replace kt0 := cell_later hb (cell_al _ kt0)
        replace kt1 := cell_later hb (cell_al _ kt1)
        replace kt2 := cell_later hb (cell_al _ kt2)
        replace ka0 := cell_later hb (cell_al _ ka0)
        replace ka1 := cell_later hb (cell_al _ ka1)
        have kb0 : w5.cell? ⟨w4.heap.size, 0, none⟩ = some (.int .i64 b1) := cell_later hb (by go_simp)
        have kb1 : w5.cell? ⟨w4.heap.size, 1, none⟩ = some (.int .i64 b2) := cell_later hb (by go_simp)
        replace zt : w.heap.size < w5.heap.size := World.block_lt_of_cell? _ _ kt0
        have zt_w5 := zt
        replace za : w3.heap.size < w5.heap.size := World.block_lt_of_cell? _ _ ka0
        have za_w5 := za
        have zb : w4.heap.size < w5.heap.size := World.block_lt_of_cell? _ _ kb0
        have zb_w5 := zb
        replace hb0 : Below w.heap.size w w5 := (by repeat (first | with_reducible exact Below.refl _ _ | with_reducible assumption | with_reducible refine Below.setCell ?_ (by first | omega | (simp <;> omega)) _ | with_reducible refine balloc ?_ _ | with_reducible refine Below.drew ?_ | with_reducible refine bstep ?_ (by with_reducible assumption)))
        have hs_w5 := hb.size; (try simp only [World.size_alloc, World.size_setCell] at hs_w5)
        clear hb
        go_wp2_with fail
        refine Calls.mono (JJ _) ?_
        rintro e w6 ⟨rfl, hb⟩
        replace kt0 := cell_later hb (cell_al _ kt0)
        replace kt1 := cell_later hb (cell_al _ kt1)
        replace kt2 := cell_later hb (cell_al _ kt2)
        replace ka0 := cell_later hb (cell_al _ ka0)
        replace ka1 := cell_later hb (cell_al _ ka1)
        replace kb0 := cell_later hb (cell_al _ kb0)
        replace kb1 := cell_later hb (cell_al _ kb1)
        have kc0 : w6.cell? ⟨w5.heap.size, 0, none⟩ = some (.int .i64 c1) := cell_later hb (by go_simp)
        have kc1 : w6.cell? ⟨w5.heap.size, 1, none⟩ = some (.int .i64 c2) := cell_later hb (by go_simp)
        replace zt : w.heap.size < w6.heap.size := World.block_lt_of_cell? _ _ kt0
        have zt_w6 := zt
        replace za : w3.heap.size < w6.heap.size := World.block_lt_of_cell? _ _ ka0
        have za_w6 := za
        replace zb : w4.heap.size < w6.heap.size := World.block_lt_of_cell? _ _ kb0
        have zb_w6 := zb
        have zc : w5.heap.size < w6.heap.size := World.block_lt_of_cell? _ _ kc0
        have zc_w6 := zc
        replace hb0 : Below w.heap.size w w6 := (by repeat (first | with_reducible exact Below.refl _ _ | with_reducible assumption | with_reducible refine Below.setCell ?_ (by first | omega | (simp <;> omega)) _ | with_reducible refine balloc ?_ _ | with_reducible refine Below.drew ?_ | with_reducible refine bstep ?_ (by with_reducible assumption)))
        have hs_w6 := hb.size; (try simp only [World.size_alloc, World.size_setCell] at hs_w6)
        clear hb
        go_wp2_with fail
        refine Calls.mono (W1 _) ?_
        rintro e w7 ⟨rfl, hb⟩
        replace kt0 := cell_later hb (cell_al _ kt0)
        replace kt1 := cell_later hb (cell_al _ kt1)
        replace kt2 := cell_later hb (cell_al _ kt2)
        replace ka0 := cell_later hb (cell_al _ ka0)
        replace ka1 := cell_later hb (cell_al _ ka1)
        replace kb0 := cell_later hb (cell_al _ kb0)
        replace kb1 := cell_later hb (cell_al _ kb1)
        replace kc0 := cell_later hb (cell_al _ kc0)
        replace kc1 := cell_later hb (cell_al _ kc1)
        have kd0 : w7.cell? ⟨w6.heap.size, 0, none⟩ = some (.int .i64 c1) := cell_later hb (by go_simp)
        have kd1 : w7.cell? ⟨w6.heap.size, 1, none⟩ = some (.int .i64 c2) := cell_later hb (by go_simp)
        replace zt : w.heap.size < w7.heap.size := World.block_lt_of_cell? _ _ kt0
        have zt_w7 := zt
        replace za : w3.heap.size < w7.heap.size := World.block_lt_of_cell? _ _ ka0
        have za_w7 := za
        replace zb : w4.heap.size < w7.heap.size := World.block_lt_of_cell? _ _ kb0
        have zb_w7 := zb
        replace zc : w5.heap.size < w7.heap.size := World.block_lt_of_cell? _ _ kc0
        have zc_w7 := zc
        have zd : w6.heap.size < w7.heap.size := World.block_lt_of_cell? _ _ kd0
        have zd_w7 := zd
        replace hb0 : Below w.heap.size w w7 := (by repeat (first | with_reducible exact Below.refl _ _ | with_reducible assumption | with_reducible refine Below.setCell ?_ (by first | omega | (simp <;> omega)) _ | with_reducible refine balloc ?_ _ | with_reducible refine Below.drew ?_ | with_reducible refine bstep ?_ (by with_reducible assumption)))
        have hs_w7 := hb.size; (try simp only [World.size_alloc, World.size_setCell] at hs_w7)
        clear hb
        go_wp2_with fail
        refine Calls.mono (W2 _) ?_
        rintro e w8 ⟨rfl, hb⟩
        replace kt0 := cell_later hb kt0
        replace kt1 := cell_later hb kt1
        replace kt2 := cell_later hb kt2
        replace ka0 := cell_later hb ka0
        replace ka1 := cell_later hb ka1
        replace kb0 := cell_later hb kb0
        replace kb1 := cell_later hb kb1
        replace kc0 := cell_later hb kc0
        replace kc1 := cell_later hb kc1
        replace kd0 := cell_later hb kd0
        replace kd1 := cell_later hb kd1
        replace zt : w.heap.size < w8.heap.size := World.block_lt_of_cell? _ _ kt0
        have zt_w8 := zt
        replace za : w3.heap.size < w8.heap.size := World.block_lt_of_cell? _ _ ka0
        have za_w8 := za
        replace zb : w4.heap.size < w8.heap.size := World.block_lt_of_cell? _ _ kb0
        have zb_w8 := zb
        replace zc : w5.heap.size < w8.heap.size := World.block_lt_of_cell? _ _ kc0
        have zc_w8 := zc
        replace zd : w6.heap.size < w8.heap.size := World.block_lt_of_cell? _ _ kd0
        have zd_w8 := zd
        replace hb0 : Below w.heap.size w w8 := (by repeat (first | with_reducible exact Below.refl _ _ | with_reducible assumption | with_reducible refine Below.setCell ?_ (by first | omega | (simp <;> omega)) _ | with_reducible refine balloc ?_ _ | with_reducible refine Below.drew ?_ | with_reducible refine bstep ?_ (by with_reducible assumption)))
        have hs_w8 : w7.heap.size ≤ w8.heap.size := hb.size
        clear hb
        go_wp2
        go_ret
        exact ⟨rfl, (by repeat (first | with_reducible exact Below.refl _ _ | with_reducible assumption | with_reducible refine Below.setCell ?_ (by first | omega | (simp <;> omega)) _ | with_reducible refine balloc ?_ _ | with_reducible refine Below.drew ?_ | with_reducible refine bstep ?_ (by with_reducible assumption)))⟩
      · clear PA
        go_enter Try.func4, Try.ntmps4
        go_wp2_with fail
        refine Calls.mono (head_c _) ?_
        rintro e w1 ⟨rfl, hb⟩
        have kt0 : w1.cell? ⟨w.heap.size, 0, none⟩ = some (.int .i64 s) := cell_later hb (by go_simp)
        have kt1 : w1.cell? ⟨w.heap.size, 1, none⟩ = some (.int .i64 p) := cell_later hb (by go_simp)
        have kt2 : w1.cell? ⟨w.heap.size, 2, none⟩ = some (.slice pp l.length cap) := cell_later hb (by go_simp)
        have zt : w.heap.size < w1.heap.size := World.block_lt_of_cell? _ _ kt0
        have zt_w1 := zt
        have hb0 : Below w.heap.size w w1 := (by repeat (first | with_reducible exact Below.refl _ _ | with_reducible assumption | with_reducible refine Below.setCell ?_ (by first | omega | (simp <;> omega)) _ | with_reducible refine balloc ?_ _ | with_reducible refine Below.drew ?_ | with_reducible refine bstep ?_ (by with_reducible assumption)))
        have hs_w1 := hb.size; (try simp only [World.size_alloc, World.size_setCell] at hs_w1)
        clear hb
        go_wp2_with fail
        refine Calls.mono (F1 _ (by repeat (first | with_reducible exact Below.refl _ _ | with_reducible assumption | with_reducible refine Below.setCell ?_ (by first | omega | (simp <;> omega)) _ | with_reducible refine balloc ?_ _ | with_reducible refine Below.drew ?_ | with_reducible refine bstep ?_ (by with_reducible assumption)))) ?_
        rintro e w2 ⟨rfl, hb⟩
        replace kt0 := cell_later hb kt0
        replace kt1 := cell_later hb kt1
        replace kt2 := cell_later hb kt2
        replace zt : w.heap.size < w2.heap.size := World.block_lt_of_cell? _ _ kt0
        have zt_w2 := zt
        replace hb0 : Below w.heap.size w w2 := (by repeat (first | with_reducible exact Below.refl _ _ | with_reducible assumption | with_reducible refine Below.setCell ?_ (by first | omega | (simp <;> omega)) _ | with_reducible refine balloc ?_ _ | with_reducible refine Below.drew ?_ | with_reducible refine bstep ?_ (by with_reducible assumption)))
        have hs_w2 : w1.heap.size ≤ w2.heap.size := hb.size
        clear hb
        go_wp2_with fail
        refine Calls.mono (HX _ (by repeat (first | with_reducible exact Below.refl _ _ | with_reducible assumption | with_reducible refine Below.setCell ?_ (by first | omega | (simp <;> omega)) _ | with_reducible refine balloc ?_ _ | with_reducible refine Below.drew ?_ | with_reducible refine bstep ?_ (by with_reducible assumption)))) ?_
        rintro e w3 ⟨rfl, hb⟩
        replace kt0 := cell_later hb kt0
        replace kt1 := cell_later hb kt1
        replace kt2 := cell_later hb kt2
        replace zt : w.heap.size < w3.heap.size := World.block_lt_of_cell? _ _ kt0
        have zt_w3 := zt
        replace hb0 : Below w.heap.size w w3 := (by repeat (first | with_reducible exact Below.refl _ _ | with_reducible assumption | with_reducible refine Below.setCell ?_ (by first | omega | (simp <;> omega)) _ | with_reducible refine balloc ?_ _ | with_reducible refine Below.drew ?_ | with_reducible refine bstep ?_ (by with_reducible assumption)))
        have hs_w3 : w2.heap.size ≤ w3.heap.size := hb.size
        clear hb
        go_wp2_with fail
        refine Calls.mono (HY _ (by repeat (first | with_reducible exact Below.refl _ _ | with_reducible assumption | with_reducible refine Below.setCell ?_ (by first | omega | (simp <;> omega)) _ | with_reducible refine balloc ?_ _ | with_reducible refine Below.drew ?_ | with_reducible refine bstep ?_ (by with_reducible assumption)))) ?_
        rintro e w4 ⟨rfl, hb⟩
        replace kt0 := cell_later hb (cell_al _ kt0)
        replace kt1 := cell_later hb (cell_al _ kt1)
        replace kt2 := cell_later hb (cell_al _ kt2)
        have ka0 : w4.cell? ⟨w3.heap.size, 0, none⟩ = some (.int .i64 a1) := cell_later hb (by go_simp)
        have ka1 : w4.cell? ⟨w3.heap.size, 1, none⟩ = some (.int .i64 a2) := cell_later hb (by go_simp)
        replace zt : w.heap.size < w4.heap.size := World.block_lt_of_cell? _ _ kt0
        have zt_w4 := zt
        have za : w3.heap.size < w4.heap.size := World.block_lt_of_cell? _ _ ka0
        have za_w4 := za
        replace hb0 : Below w.heap.size w w4 := (by repeat (first | with_reducible exact Below.refl _ _ | with_reducible assumption | with_reducible refine Below.setCell ?_ (by first | omega | (simp <;> omega)) _ | with_reducible refine balloc ?_ _ | with_reducible refine Below.drew ?_ | with_reducible refine bstep ?_ (by with_reducible assumption)))
        have hs_w4 := hb.size; (try simp only [World.size_alloc, World.size_setCell] at hs_w4)
        clear hb
        go_wp2
        go_ret
        exact ⟨rfl, (by repeat (first | with_reducible exact Below.refl _ _ | with_reducible assumption | with_reducible refine Below.setCell ?_ (by first | omega | (simp <;> omega)) _ | with_reducible refine balloc ?_ _ | with_reducible refine Below.drew ?_ | with_reducible refine bstep ?_ (by with_reducible assumption)))⟩
    · clear PA
      go_enter Try.func4, Try.ntmps4
      go_wp2_with fail
      refine Calls.mono (head_c _) ?_
      rintro e w1 ⟨rfl, hb⟩
      have kt0 : w1.cell? ⟨w.heap.size, 0, none⟩ = some (.int .i64 s) := cell_later hb (by go_simp)
      have kt1 : w1.cell? ⟨w.heap.size, 1, none⟩ = some (.int .i64 p) := cell_later hb (by go_simp)
      have kt2 : w1.cell? ⟨w.heap.size, 2, none⟩ = some (.slice pp l.length cap) := cell_later hb (by go_simp)
      have zt : w.heap.size < w1.heap.size := World.block_lt_of_cell? _ _ kt0
      have zt_w1 := zt
      have hb0 : Below w.heap.size w w1 := (by repeat (first | with_reducible exact Below.refl _ _ | with_reducible assumption | with_reducible refine Below.setCell ?_ (by first | omega | (simp <;> omega)) _ | with_reducible refine balloc ?_ _ | with_reducible refine Below.drew ?_ | with_reducible refine bstep ?_ (by with_reducible assumption)))
      have hs_w1 := hb.size; (try simp only [World.size_alloc, World.size_setCell] at hs_w1)
      clear hb
      go_wp2_with fail
      refine Calls.mono (F1 _ (by repeat (first | with_reducible exact Below.refl _ _ | with_reducible assumption | with_reducible refine Below.setCell ?_ (by first | omega | (simp <;> omega)) _ | with_reducible refine balloc ?_ _ | with_reducible refine Below.drew ?_ | with_reducible refine bstep ?_ (by with_reducible assumption)))) ?_
      rintro e w2 ⟨rfl, hb⟩
      replace kt0 := cell_later hb kt0
      replace kt1 := cell_later hb kt1
      replace kt2 := cell_later hb kt2
      replace zt : w.heap.size < w2.heap.size := World.block_lt_of_cell? _ _ kt0
      have zt_w2 := zt
      replace hb0 : Below w.heap.size w w2 := (by repeat (first | with_reducible exact Below.refl _ _ | with_reducible assumption | with_reducible refine Below.setCell ?_ (by first | omega | (simp <;> omega)) _ | with_reducible refine balloc ?_ _ | with_reducible refine Below.drew ?_ | with_reducible refine bstep ?_ (by with_reducible assumption)))
      have hs_w2 : w1.heap.size ≤ w2.heap.size := hb.size
      clear hb
      go_wp2_with fail
      refine Calls.mono (HX _ (by repeat (first | with_reducible exact Below.refl _ _ | with_reducible assumption | with_reducible refine Below.setCell ?_ (by first | omega | (simp <;> omega)) _ | with_reducible refine balloc ?_ _ | with_reducible refine Below.drew ?_ | with_reducible refine bstep ?_ (by with_reducible assumption)))) ?_
      rintro e w3 ⟨rfl, hb⟩
      replace kt0 := cell_later hb kt0
      replace kt1 := cell_later hb kt1
      replace kt2 := cell_later hb kt2
      replace zt : w.heap.size < w3.heap.size := World.block_lt_of_cell? _ _ kt0
      have zt_w3 := zt
      replace hb0 : Below w.heap.size w w3 := (by repeat (first | with_reducible exact Below.refl _ _ | with_reducible assumption | with_reducible refine Below.setCell ?_ (by first | omega | (simp <;> omega)) _ | with_reducible refine balloc ?_ _ | with_reducible refine Below.drew ?_ | with_reducible refine bstep ?_ (by with_reducible assumption)))
      have hs_w3 : w2.heap.size ≤ w3.heap.size := hb.size
      clear hb
      go_wp2_with fail
      refine Calls.mono (HY _ (by repeat (first | with_reducible exact Below.refl _ _ | with_reducible assumption | with_reducible refine Below.setCell ?_ (by first | omega | (simp <;> omega)) _ | with_reducible refine balloc ?_ _ | with_reducible refine Below.drew ?_ | with_reducible refine bstep ?_ (by with_reducible assumption)))) ?_
      rintro e w4 ⟨rfl, hb⟩
      replace kt0 := cell_later hb (cell_al _ kt0)
      replace kt1 := cell_later hb (cell_al _ kt1)
      replace kt2 := cell_later hb (cell_al _ kt2)
      have ka0 : w4.cell? ⟨w3.heap.size, 0, none⟩ = some (.int .i64 a1) := cell_later hb (by go_simp)
      have ka1 : w4.cell? ⟨w3.heap.size, 1, none⟩ = some (.int .i64 a2) := cell_later hb (by go_simp)
      replace zt : w.heap.size < w4.heap.size := World.block_lt_of_cell? _ _ kt0
      have zt_w4 := zt
      have za : w3.heap.size < w4.heap.size := World.block_lt_of_cell? _ _ ka0
      have za_w4 := za
      replace hb0 : Below w.heap.size w w4 := (by repeat (first | with_reducible exact Below.refl _ _ | with_reducible assumption | with_reducible refine Below.setCell ?_ (by first | omega | (simp <;> omega)) _ | with_reducible refine balloc ?_ _ | with_reducible refine Below.drew ?_ | with_reducible refine bstep ?_ (by with_reducible assumption)))
      have hs_w4 := hb.size; (try simp only [World.size_alloc, World.size_setCell] at hs_w4)
      clear hb
      go_wp2
      go_ret
      exact ⟨rfl, (by repeat (first | with_reducible exact Below.refl _ _ | with_reducible assumption | with_reducible refine Below.setCell ?_ (by first | omega | (simp <;> omega)) _ | with_reducible refine balloc ?_ _ | with_reducible refine Below.drew ?_ | with_reducible refine bstep ?_ (by with_reducible assumption)))⟩

end Go.Proofs.Ytemogomligbgiaa.Ti
