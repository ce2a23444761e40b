/- L6True: the law True. -/
import Derived.Test.YtemogomligbgiaaTidVa
import Derived.Test.YtemogomligbgiaaRows
import Derived.WalkKit
import Derived.WalkSpells
import Derived.WalkLawsBesides
import Derived.Lib.Hide
import Derived.Deep.QuietTactic
import Derived.BigQuiet
import Derived.RegionTactic
import Derived.ChangeAlike
import Derived.BigRegion
import Derived.Deep.RegionHeld3
import Derived.Deep.RegionWith
import Derived.Outline
import Derived.IntWalk
import Derived.Deep.DeepCutAuto
import Derived.LoopTactic
namespace Go.Proofs.Ytemogomligbgiaa.Ti
open Go.RowKit Sp
set_option linter.unusedSimpArgs false
set_option linter.unusedVariables false

theorem cell_below {W w1 : World} {a : Addr} {v : Value} {B : Nat} (hb : Below B W w1) (h : W.cell? a = some v) (hl : a.block < B := by assumption) : w1.cell? a = some v := (hb.cell hl).trans h
set_option maxRecDepth 100000 in
set_option maxHeartbeats 16000000 in
theorem true_w (w : World) (s p : Int) (u : Value) (l : List Pr) (hsp : Spans w u l) (uq : Value) (q : List Int) (hq : Bits w uq q) (t f v bt : Int) : Calls Try.prog 5 #[.agg #[(.int .i64 s), (.int .i64 p), u], uq, (.int .i64 t), (.int .i64 f), (.int .i64 v), (.int .i64 bt)] w (Ret w (.bool true)) := by
  have F1 := fun W h => few_c s p u l W (hsp.below h)
  have V1 := fun W h => RValid_c s p u l W (hsp.below h)
  have HA := fun W h => Height_c s p u l f v W (hsp.below h)
  have TF := fun h1 h2 => true_facts (s := s) (p := p) (l := l) (q := q) (t := t) (f := f) (u := v) h1 h2 hq.bd
  obtain ⟨⟨pp, cap, rfl, hn, hcap, hp⟩, hl⟩ := hsp
  clear hn
  obtain ⟨⟨pq, cq, rfl, hpq⟩, hqb, hql⟩ := hq
  generalize hfew : fewB p l = few at *
  cases few
  · clear V1 HA TF hp hpq
    go_enter Try.func5, Try.ntmps5
    go_wp2_with fail
    refine Calls.mono (head_c _) ?_
    rintro e w1 ⟨rfl, hb⟩
    have kt0 : w1.cell? ⟨w.heap.size, 0, none⟩ = some (.int .i64 s) := cell_later hb (by go_simp)
    have kt1 : w1.cell? ⟨w.heap.size, 1, none⟩ = some (.int .i64 p) := cell_later hb (by go_simp)
    have kt2 : w1.cell? ⟨w.heap.size, 2, none⟩ = some (.slice pp l.length cap) := cell_later hb (by go_simp)
    have kq0 : w1.cell? ⟨w.heap.size + 1, 0, none⟩ = some (.slice pq q.length cq) := cell_later hb (by go_simp)
    have zt : w.heap.size < w1.heap.size := World.block_lt_of_cell? _ _ kt0
    have zt_w1 := zt
    have zq : w.heap.size + 1 < w1.heap.size := World.block_lt_of_cell? _ _ kq0
    have zq_w1 := zq
    have hb0 : Below w.heap.size w w1 := (by repeat (first | with_reducible exact Below.refl _ _ | with_reducible assumption | with_reducible refine Below.setCell ?_ (by first | omega | (simp <;> omega)) _ | with_reducible refine balloc ?_ _ | with_reducible refine Below.drew ?_ | with_reducible refine bstep ?_ (by with_reducible assumption)))
    have hs_w1 := hb.size; (try simp only [World.size_alloc, World.size_setCell] at hs_w1)
    clear hb
    go_wp2_with fail
    refine Calls.mono (F1 _ (by repeat (first | with_reducible exact Below.refl _ _ | with_reducible assumption | with_reducible refine Below.setCell ?_ (by first | omega | (simp <;> omega)) _ | with_reducible refine balloc ?_ _ | with_reducible refine Below.drew ?_ | with_reducible refine bstep ?_ (by with_reducible assumption)))) ?_
    rintro e w2 ⟨rfl, hb⟩
    replace kt0 := cell_later hb kt0
    replace kt1 := cell_later hb kt1
    replace kt2 := cell_later hb kt2
    replace kq0 := cell_later hb kq0
    replace zt : w.heap.size < w2.heap.size := World.block_lt_of_cell? _ _ kt0
    have zt_w2 := zt
    replace zq : w.heap.size + 1 < w2.heap.size := World.block_lt_of_cell? _ _ kq0
    have zq_w2 := zq
    replace hb0 : Below w.heap.size w w2 := (by repeat (first | with_reducible exact Below.refl _ _ | with_reducible assumption | with_reducible refine Below.setCell ?_ (by first | omega | (simp <;> omega)) _ | with_reducible refine balloc ?_ _ | with_reducible refine Below.drew ?_ | with_reducible refine bstep ?_ (by with_reducible assumption)))
    have hs_w2 : w1.heap.size ≤ w2.heap.size := hb.size
    clear hb
    go_wp2
    go_ret
    exact ⟨rfl, (by repeat (first | with_reducible exact Below.refl _ _ | with_reducible assumption | with_reducible refine Below.setCell ?_ (by first | omega | (simp <;> omega)) _ | with_reducible refine balloc ?_ _ | with_reducible refine Below.drew ?_ | with_reducible refine bstep ?_ (by with_reducible assumption)))⟩
  · cases h1 : vaT s p l
    · clear HA TF hp hpq
      go_enter Try.func5, Try.ntmps5
      go_wp2_with fail
      refine Calls.mono (head_c _) ?_
      rintro e w1 ⟨rfl, hb⟩
      have kt0 : w1.cell? ⟨w.heap.size, 0, none⟩ = some (.int .i64 s) := cell_later hb (by go_simp)
      have kt1 : w1.cell? ⟨w.heap.size, 1, none⟩ = some (.int .i64 p) := cell_later hb (by go_simp)
      have kt2 : w1.cell? ⟨w.heap.size, 2, none⟩ = some (.slice pp l.length cap) := cell_later hb (by go_simp)
      have kq0 : w1.cell? ⟨w.heap.size + 1, 0, none⟩ = some (.slice pq q.length cq) := cell_later hb (by go_simp)
      have zt : w.heap.size < w1.heap.size := World.block_lt_of_cell? _ _ kt0
      have zt_w1 := zt
      have zq : w.heap.size + 1 < w1.heap.size := World.block_lt_of_cell? _ _ kq0
      have zq_w1 := zq
      have hb0 : Below w.heap.size w w1 := (by repeat (first | with_reducible exact Below.refl _ _ | with_reducible assumption | with_reducible refine Below.setCell ?_ (by first | omega | (simp <;> omega)) _ | with_reducible refine balloc ?_ _ | with_reducible refine Below.drew ?_ | with_reducible refine bstep ?_ (by with_reducible assumption)))
      have hs_w1 := hb.size; (try simp only [World.size_alloc, World.size_setCell] at hs_w1)
      clear hb
      go_wp2_with fail
      refine Calls.mono (F1 _ (by repeat (first | with_reducible exact Below.refl _ _ | with_reducible assumption | with_reducible refine Below.setCell ?_ (by first | omega | (simp <;> omega)) _ | with_reducible refine balloc ?_ _ | with_reducible refine Below.drew ?_ | with_reducible refine bstep ?_ (by with_reducible assumption)))) ?_
      rintro e w2 ⟨rfl, hb⟩
      replace kt0 := cell_later hb kt0
      replace kt1 := cell_later hb kt1
      replace kt2 := cell_later hb kt2
      replace kq0 := cell_later hb kq0
      replace zt : w.heap.size < w2.heap.size := World.block_lt_of_cell? _ _ kt0
      have zt_w2 := zt
      replace zq : w.heap.size + 1 < w2.heap.size := World.block_lt_of_cell? _ _ kq0
      have zq_w2 := zq
      replace hb0 : Below w.heap.size w w2 := (by repeat (first | with_reducible exact Below.refl _ _ | with_reducible assumption | with_reducible refine Below.setCell ?_ (by first | omega | (simp <;> omega)) _ | with_reducible refine balloc ?_ _ | with_reducible refine Below.drew ?_ | with_reducible refine bstep ?_ (by with_reducible assumption)))
      have hs_w2 : w1.heap.size ≤ w2.heap.size := hb.size
      clear hb
      go_wp2_with fail
      refine Calls.mono (V1 _ (by repeat (first | with_reducible exact Below.refl _ _ | with_reducible assumption | with_reducible refine Below.setCell ?_ (by first | omega | (simp <;> omega)) _ | with_reducible refine balloc ?_ _ | with_reducible refine Below.drew ?_ | with_reducible refine bstep ?_ (by with_reducible assumption)))) ?_
      rintro e w3 ⟨rfl, hb⟩
      replace kt0 := cell_later hb kt0
      replace kt1 := cell_later hb kt1
      replace kt2 := cell_later hb kt2
      replace kq0 := cell_later hb kq0
      replace zt : w.heap.size < w3.heap.size := World.block_lt_of_cell? _ _ kt0
      have zt_w3 := zt
      replace zq : w.heap.size + 1 < w3.heap.size := World.block_lt_of_cell? _ _ kq0
      have zq_w3 := zq
      replace hb0 : Below w.heap.size w w3 := (by repeat (first | with_reducible exact Below.refl _ _ | with_reducible assumption | with_reducible refine Below.setCell ?_ (by first | omega | (simp <;> omega)) _ | with_reducible refine balloc ?_ _ | with_reducible refine Below.drew ?_ | with_reducible refine bstep ?_ (by with_reducible assumption)))
      have hs_w3 : w2.heap.size ≤ w3.heap.size := hb.size
      clear hb
      rw [h1]
      go_wp2
      go_ret
      exact ⟨rfl, (by repeat (first | with_reducible exact Below.refl _ _ | with_reducible assumption | with_reducible refine Below.setCell ?_ (by first | omega | (simp <;> omega)) _ | with_reducible refine balloc ?_ _ | with_reducible refine Below.drew ?_ | with_reducible refine bstep ?_ (by with_reducible assumption)))⟩
    · obtain ⟨⟨vs1, vs2⟩, ⟨vp1, vp2⟩, ⟨vn1, vn2⟩, ⟨vl1, vl2⟩, vall⟩ := vaT_iff.1 h1
      by_cases c1 : q.length < l.length
      · have c1i : (q.length : Int) < (l.length : Int) := by omega
        clear HA TF hp hpq
        go_enter Try.func5, Try.ntmps5
        go_wp2_with fail
        refine Calls.mono (head_c _) ?_
        rintro e w1 ⟨rfl, hb⟩
        have kt0 : w1.cell? ⟨w.heap.size, 0, none⟩ = some (.int .i64 s) := cell_later hb (by go_simp)
        have kt1 : w1.cell? ⟨w.heap.size, 1, none⟩ = some (.int .i64 p) := cell_later hb (by go_simp)
        have kt2 : w1.cell? ⟨w.heap.size, 2, none⟩ = some (.slice pp l.length cap) := cell_later hb (by go_simp)
        have kq0 : w1.cell? ⟨w.heap.size + 1, 0, none⟩ = some (.slice pq q.length cq) := cell_later hb (by go_simp)
        have zt : w.heap.size < w1.heap.size := World.block_lt_of_cell? _ _ kt0
        have zt_w1 := zt
        have zq : w.heap.size + 1 < w1.heap.size := World.block_lt_of_cell? _ _ kq0
        have zq_w1 := zq
        have hb0 : Below w.heap.size w w1 := (by repeat (first | with_reducible exact Below.refl _ _ | with_reducible assumption | with_reducible refine Below.setCell ?_ (by first | omega | (simp <;> omega)) _ | with_reducible refine balloc ?_ _ | with_reducible refine Below.drew ?_ | with_reducible refine bstep ?_ (by with_reducible assumption)))
        have hs_w1 := hb.size; (try simp only [World.size_alloc, World.size_setCell] at hs_w1)
        clear hb
        go_wp2_with fail
        refine Calls.mono (F1 _ (by repeat (first | with_reducible exact Below.refl _ _ | with_reducible assumption | with_reducible refine Below.setCell ?_ (by first | omega | (simp <;> omega)) _ | with_reducible refine balloc ?_ _ | with_reducible refine Below.drew ?_ | with_reducible refine bstep ?_ (by with_reducible assumption)))) ?_
        rintro e w2 ⟨rfl, hb⟩
        replace kt0 := cell_later hb kt0
        replace kt1 := cell_later hb kt1
        replace kt2 := cell_later hb kt2
        replace kq0 := cell_later hb kq0
        replace zt : w.heap.size < w2.heap.size := World.block_lt_of_cell? _ _ kt0
        have zt_w2 := zt
        replace zq : w.heap.size + 1 < w2.heap.size := World.block_lt_of_cell? _ _ kq0
        have zq_w2 := zq
        replace hb0 : Below w.heap.size w w2 := (by repeat (first | with_reducible exact Below.refl _ _ | with_reducible assumption | with_reducible refine Below.setCell ?_ (by first | omega | (simp <;> omega)) _ | with_reducible refine balloc ?_ _ | with_reducible refine Below.drew ?_ | with_reducible refine bstep ?_ (by with_reducible assumption)))
        have hs_w2 : w1.heap.size ≤ w2.heap.size := hb.size
        clear hb
        go_wp2_with fail
        refine Calls.mono (V1 _ (by repeat (first | with_reducible exact Below.refl _ _ | with_reducible assumption | with_reducible refine Below.setCell ?_ (by first | omega | (simp <;> omega)) _ | with_reducible refine balloc ?_ _ | with_reducible refine Below.drew ?_ | with_reducible refine bstep ?_ (by with_reducible assumption)))) ?_
        rintro e w3 ⟨rfl, hb⟩
        replace kt0 := cell_later hb kt0
        replace kt1 := cell_later hb kt1
        replace kt2 := cell_later hb kt2
        replace kq0 := cell_later hb kq0
        replace zt : w.heap.size < w3.heap.size := World.block_lt_of_cell? _ _ kt0
        have zt_w3 := zt
        replace zq : w.heap.size + 1 < w3.heap.size := World.block_lt_of_cell? _ _ kq0
        have zq_w3 := zq
        replace hb0 : Below w.heap.size w w3 := (by repeat (first | with_reducible exact Below.refl _ _ | with_reducible assumption | with_reducible refine Below.setCell ?_ (by first | omega | (simp <;> omega)) _ | with_reducible refine balloc ?_ _ | with_reducible refine Below.drew ?_ | with_reducible refine bstep ?_ (by with_reducible assumption)))
        have hs_w3 : w2.heap.size ≤ w3.heap.size := hb.size
        clear hb
        rw [h1]
        go_wp2
        go_ret
        exact ⟨rfl, (by repeat (first | with_reducible exact Below.refl _ _ | with_reducible assumption | with_reducible refine Below.setCell ?_ (by first | omega | (simp <;> omega)) _ | with_reducible refine balloc ?_ _ | with_reducible refine Below.drew ?_ | with_reducible refine bstep ?_ (by with_reducible assumption)))⟩
      · have c1i : (l.length : Int) ≤ (q.length : Int) := by omega
        by_cases c2 : t < s
        · clear HA TF hp hpq
          go_enter Try.func5, Try.ntmps5
          go_wp2_with fail
          refine Calls.mono (head_c _) ?_
          rintro e w1 ⟨rfl, hb⟩
          have kt0 : w1.cell? ⟨w.heap.size, 0, none⟩ = some (.int .i64 s) := cell_later hb (by go_simp)
          have kt1 : w1.cell? ⟨w.heap.size, 1, none⟩ = some (.int .i64 p) := cell_later hb (by go_simp)
          have kt2 : w1.cell? ⟨w.heap.size, 2, none⟩ = some (.slice pp l.length cap) := cell_later hb (by go_simp)
          have kq0 : w1.cell? ⟨w.heap.size + 1, 0, none⟩ = some (.slice pq q.length cq) := cell_later hb (by go_simp)
          have zt : w.heap.size < w1.heap.size := World.block_lt_of_cell? _ _ kt0
          have zt_w1 := zt
          have zq : w.heap.size + 1 < w1.heap.size := World.block_lt_of_cell? _ _ kq0
          have zq_w1 := zq
          have hb0 : Below w.heap.size w w1 := (by repeat (first | with_reducible exact Below.refl _ _ | with_reducible assumption | with_reducible refine Below.setCell ?_ (by first | omega | (simp <;> omega)) _ | with_reducible refine balloc ?_ _ | with_reducible refine Below.drew ?_ | with_reducible refine bstep ?_ (by with_reducible assumption)))
          have hs_w1 := hb.size; (try simp only [World.size_alloc, World.size_setCell] at hs_w1)
          clear hb
          go_wp2_with fail
          refine Calls.mono (F1 _ (by repeat (first | with_reducible exact Below.refl _ _ | with_reducible assumption | with_reducible refine Below.setCell ?_ (by first | omega | (simp <;> omega)) _ | with_reducible refine balloc ?_ _ | with_reducible refine Below.drew ?_ | with_reducible refine bstep ?_ (by with_reducible assumption)))) ?_
          rintro e w2 ⟨rfl, hb⟩
          replace kt0 := cell_later hb kt0
          replace kt1 := cell_later hb kt1
          replace kt2 := cell_later hb kt2
          replace kq0 := cell_later hb kq0
          replace zt : w.heap.size < w2.heap.size := World.block_lt_of_cell? _ _ kt0
          have zt_w2 := zt
          replace zq : w.heap.size + 1 < w2.heap.size := World.block_lt_of_cell? _ _ kq0
          have zq_w2 := zq
          replace hb0 : Below w.heap.size w w2 := (by repeat (first | with_reducible exact Below.refl _ _ | with_reducible assumption | with_reducible refine Below.setCell ?_ (by first | omega | (simp <;> omega)) _ | with_reducible refine balloc ?_ _ | with_reducible refine Below.drew ?_ | with_reducible refine bstep ?_ (by with_reducible assumption)))
          have hs_w2 : w1.heap.size ≤ w2.heap.size := hb.size
          clear hb
          go_wp2_with fail
          refine Calls.mono (V1 _ (by repeat (first | with_reducible exact Below.refl _ _ | with_reducible assumption | with_reducible refine Below.setCell ?_ (by first | omega | (simp <;> omega)) _ | with_reducible refine balloc ?_ _ | with_reducible refine Below.drew ?_ | with_reducible refine bstep ?_ (by with_reducible assumption)))) ?_
          rintro e w3 ⟨rfl, hb⟩
          replace kt0 := cell_later hb kt0
          replace kt1 := cell_later hb kt1
          replace kt2 := cell_later hb kt2
          replace kq0 := cell_later hb kq0
          replace zt : w.heap.size < w3.heap.size := World.block_lt_of_cell? _ _ kt0
          have zt_w3 := zt
          replace zq : w.heap.size + 1 < w3.heap.size := World.block_lt_of_cell? _ _ kq0
          have zq_w3 := zq
          replace hb0 : Below w.heap.size w w3 := (by repeat (first | with_reducible exact Below.refl _ _ | with_reducible assumption | with_reducible refine Below.setCell ?_ (by first | omega | (simp <;> omega)) _ | with_reducible refine balloc ?_ _ | with_reducible refine Below.drew ?_ | with_reducible refine bstep ?_ (by with_reducible assumption)))
          have hs_w3 : w2.heap.size ≤ w3.heap.size := hb.size
          clear hb
          rw [h1]
          go_wp2
          go_ret
          exact ⟨rfl, (by repeat (first | with_reducible exact Below.refl _ _ | with_reducible assumption | with_reducible refine Below.setCell ?_ (by first | omega | (simp <;> omega)) _ | with_reducible refine balloc ?_ _ | with_reducible refine Below.drew ?_ | with_reducible refine bstep ?_ (by with_reducible assumption)))⟩
        · obtain ⟨m1, m2⟩ := mul_lt (k := (l.length : Int) - 1) (n := 200) (p := p) (by omega) (by omega) (by omega)
          by_cases c3 : s + ((l.length : Int) - 1) * p < t
          · clear HA TF hp hpq
            go_enter Try.func5, Try.ntmps5
            go_wp2_with fail
            refine Calls.mono (head_c _) ?_
            rintro e w1 ⟨rfl, hb⟩
            have kt0 : w1.cell? ⟨w.heap.size, 0, none⟩ = some (.int .i64 s) := cell_later hb (by go_simp)
            have kt1 : w1.cell? ⟨w.heap.size, 1, none⟩ = some (.int .i64 p) := cell_later hb (by go_simp)
            have kt2 : w1.cell? ⟨w.heap.size, 2, none⟩ = some (.slice pp l.length cap) := cell_later hb (by go_simp)
            have kq0 : w1.cell? ⟨w.heap.size + 1, 0, none⟩ = some (.slice pq q.length cq) := cell_later hb (by go_simp)
            have zt : w.heap.size < w1.heap.size := World.block_lt_of_cell? _ _ kt0
            have zt_w1 := zt
            have zq : w.heap.size + 1 < w1.heap.size := World.block_lt_of_cell? _ _ kq0
            have zq_w1 := zq
            have hb0 : Below w.heap.size w w1 := (by repeat (first | with_reducible exact Below.refl _ _ | with_reducible assumption | with_reducible refine Below.setCell ?_ (by first | omega | (simp <;> omega)) _ | with_reducible refine balloc ?_ _ | with_reducible refine Below.drew ?_ | with_reducible refine bstep ?_ (by with_reducible assumption)))
            have hs_w1 := hb.size; (try simp only [World.size_alloc, World.size_setCell] at hs_w1)
            clear hb
            go_wp2_with fail
            refine Calls.mono (F1 _ (by repeat (first | with_reducible exact Below.refl _ _ | with_reducible assumption | with_reducible refine Below.setCell ?_ (by first | omega | (simp <;> omega)) _ | with_reducible refine balloc ?_ _ | with_reducible refine Below.drew ?_ | with_reducible refine bstep ?_ (by with_reducible assumption)))) ?_
            rintro e w2 ⟨rfl, hb⟩
            replace kt0 := cell_later hb kt0
            replace kt1 := cell_later hb kt1
            replace kt2 := cell_later hb kt2
            replace kq0 := cell_later hb kq0
            replace zt : w.heap.size < w2.heap.size := World.block_lt_of_cell? _ _ kt0
            have zt_w2 := zt
            replace zq : w.heap.size + 1 < w2.heap.size := World.block_lt_of_cell? _ _ kq0
            have zq_w2 := zq
            replace hb0 : Below w.heap.size w w2 := (by repeat (first | with_reducible exact Below.refl _ _ | with_reducible assumption | with_reducible refine Below.setCell ?_ (by first | omega | (simp <;> omega)) _ | with_reducible refine balloc ?_ _ | with_reducible refine Below.drew ?_ | with_reducible refine bstep ?_ (by with_reducible assumption)))
            have hs_w2 : w1.heap.size ≤ w2.heap.size := hb.size
            clear hb
            go_wp2_with fail
            refine Calls.mono (V1 _ (by repeat (first | with_reducible exact Below.refl _ _ | with_reducible assumption | with_reducible refine Below.setCell ?_ (by first | omega | (simp <;> omega)) _ | with_reducible refine balloc ?_ _ | with_reducible refine Below.drew ?_ | with_reducible refine bstep ?_ (by with_reducible assumption)))) ?_
            rintro e w3 ⟨rfl, hb⟩
            replace kt0 := cell_later hb kt0
            replace kt1 := cell_later hb kt1
            replace kt2 := cell_later hb kt2
            replace kq0 := cell_later hb kq0
            replace zt : w.heap.size < w3.heap.size := World.block_lt_of_cell? _ _ kt0
            have zt_w3 := zt
            replace zq : w.heap.size + 1 < w3.heap.size := World.block_lt_of_cell? _ _ kq0
            have zq_w3 := zq
            replace hb0 : Below w.heap.size w w3 := (by repeat (first | with_reducible exact Below.refl _ _ | with_reducible assumption | with_reducible refine Below.setCell ?_ (by first | omega | (simp <;> omega)) _ | with_reducible refine balloc ?_ _ | with_reducible refine Below.drew ?_ | with_reducible refine bstep ?_ (by with_reducible assumption)))
            have hs_w3 : w2.heap.size ≤ w3.heap.size := hb.size
            clear hb
            rw [h1]
            go_wp2_with fail
            refine Calls.mono (last_c s p _ l.length cap _ ⟨vs1, vs2⟩ ⟨vp1, vp2⟩ ⟨vn1, vn2⟩) ?_
            rintro e w4 ⟨rfl, hb⟩
            replace kt0 := cell_later hb kt0
            replace kt1 := cell_later hb kt1
            replace kt2 := cell_later hb kt2
            replace kq0 := cell_later hb kq0
            replace zt : w.heap.size < w4.heap.size := World.block_lt_of_cell? _ _ kt0
            have zt_w4 := zt
            replace zq : w.heap.size + 1 < w4.heap.size := World.block_lt_of_cell? _ _ kq0
            have zq_w4 := zq
            replace hb0 : Below w.heap.size w w4 := (by repeat (first | with_reducible exact Below.refl _ _ | with_reducible assumption | with_reducible refine Below.setCell ?_ (by first | omega | (simp <;> omega)) _ | with_reducible refine balloc ?_ _ | with_reducible refine Below.drew ?_ | with_reducible refine bstep ?_ (by with_reducible assumption)))
            have hs_w4 : w3.heap.size ≤ w4.heap.size := hb.size
            clear hb
            go_wp2
            go_ret
            exact ⟨rfl, (by repeat (first | with_reducible exact Below.refl _ _ | with_reducible assumption | with_reducible refine Below.setCell ?_ (by first | omega | (simp <;> omega)) _ | with_reducible refine balloc ?_ _ | with_reducible refine Below.drew ?_ | with_reducible refine bstep ?_ (by with_reducible assumption)))⟩
          · generalize he : hE s p l f v = e1 at *
            generalize hvv : hV s p l f v = a at *
            obtain ⟨a1, a2⟩ := a
            dsimp only at HA TF
            clear he hvv
            have hcs : e1 ≠ 0 ∨ (e1 = 0 ∧ t < f) ∨ (e1 = 0 ∧ f ≤ t ∧ v < t) ∨ (e1 = 0 ∧ f ≤ t ∧ t ≤ v) := by omega
            rcases hcs with hc | ⟨rfl, hc⟩ | ⟨rfl, hc, hc2⟩ | ⟨rfl, hc, hc2⟩
            · clear TF hp hpq
              go_enter Try.func5, Try.ntmps5
              go_wp2_with fail
              refine Calls.mono (head_c _) ?_
              rintro e w1 ⟨rfl, hb⟩
              have kt0 : w1.cell? ⟨w.heap.size, 0, none⟩ = some (.int .i64 s) := cell_later hb (by go_simp)
              have kt1 : w1.cell? ⟨w.heap.size, 1, none⟩ = some (.int .i64 p) := cell_later hb (by go_simp)
              have kt2 : w1.cell? ⟨w.heap.size, 2, none⟩ = some (.slice pp l.length cap) := cell_later hb (by go_simp)
              have kq0 : w1.cell? ⟨w.heap.size + 1, 0, none⟩ = some (.slice pq q.length cq) := cell_later hb (by go_simp)
              have zt : w.heap.size < w1.heap.size := World.block_lt_of_cell? _ _ kt0
              have zt_w1 := zt
              have zq : w.heap.size + 1 < w1.heap.size := World.block_lt_of_cell? _ _ kq0
              have zq_w1 := zq
              have hb0 : Below w.heap.size w w1 := (by repeat (first | with_reducible exact Below.refl _ _ | with_reducible assumption | with_reducible refine Below.setCell ?_ (by first | omega | (simp <;> omega)) _ | with_reducible refine balloc ?_ _ | with_reducible refine Below.drew ?_ | with_reducible refine bstep ?_ (by with_reducible assumption)))
              have hs_w1 := hb.size; (try simp only [World.size_alloc, World.size_setCell] at hs_w1)
              clear hb
              go_wp2_with fail
              refine Calls.mono (F1 _ (by repeat (first | with_reducible exact Below.refl _ _ | with_reducible assumption | with_reducible refine Below.setCell ?_ (by first | omega | (simp <;> omega)) _ | with_reducible refine balloc ?_ _ | with_reducible refine Below.drew ?_ | with_reducible refine bstep ?_ (by with_reducible assumption)))) ?_
              rintro e w2 ⟨rfl, hb⟩
              replace kt0 := cell_later hb kt0
              replace kt1 := cell_later hb kt1
              replace kt2 := cell_later hb kt2
              replace kq0 := cell_later hb kq0
              replace zt : w.heap.size < w2.heap.size := World.block_lt_of_cell? _ _ kt0
              have zt_w2 := zt
              replace zq : w.heap.size + 1 < w2.heap.size := World.block_lt_of_cell? _ _ kq0
              have zq_w2 := zq
              replace hb0 : Below w.heap.size w w2 := (by repeat (first | with_reducible exact Below.refl _ _ | with_reducible assumption | with_reducible refine Below.setCell ?_ (by first | omega | (simp <;> omega)) _ | with_reducible refine balloc ?_ _ | with_reducible refine Below.drew ?_ | with_reducible refine bstep ?_ (by with_reducible assumption)))
              have hs_w2 : w1.heap.size ≤ w2.heap.size := hb.size
              clear hb
              go_wp2_with fail
              refine Calls.mono (V1 _ (by repeat (first | with_reducible exact Below.refl _ _ | with_reducible assumption | with_reducible refine Below.setCell ?_ (by first | omega | (simp <;> omega)) _ | with_reducible refine balloc ?_ _ | with_reducible refine Below.drew ?_ | with_reducible refine bstep ?_ (by with_reducible assumption)))) ?_
              rintro e w3 ⟨rfl, hb⟩
              replace kt0 := cell_later hb kt0
              replace kt1 := cell_later hb kt1
              replace kt2 := cell_later hb kt2
              replace kq0 := cell_later hb kq0
              replace zt : w.heap.size < w3.heap.size := World.block_lt_of_cell? _ _ kt0
              have zt_w3 := zt
              replace zq : w.heap.size + 1 < w3.heap.size := World.block_lt_of_cell? _ _ kq0
              have zq_w3 := zq
              replace hb0 : Below w.heap.size w w3 := (by repeat (first | with_reducible exact Below.refl _ _ | with_reducible assumption | with_reducible refine Below.setCell ?_ (by first | omega | (simp <;> omega)) _ | with_reducible refine balloc ?_ _ | with_reducible refine Below.drew ?_ | with_reducible refine bstep ?_ (by with_reducible assumption)))
              have hs_w3 : w2.heap.size ≤ w3.heap.size := hb.size
              clear hb
              rw [h1]
              go_wp2_with fail
              refine Calls.mono (last_c s p _ l.length cap _ ⟨vs1, vs2⟩ ⟨vp1, vp2⟩ ⟨vn1, vn2⟩) ?_
              rintro e w4 ⟨rfl, hb⟩
              replace kt0 := cell_later hb kt0
              replace kt1 := cell_later hb kt1
              replace kt2 := cell_later hb kt2
              replace kq0 := cell_later hb kq0
              replace zt : w.heap.size < w4.heap.size := World.block_lt_of_cell? _ _ kt0
              have zt_w4 := zt
              replace zq : w.heap.size + 1 < w4.heap.size := World.block_lt_of_cell? _ _ kq0
              have zq_w4 := zq
              replace hb0 : Below w.heap.size w w4 := (by repeat (first | with_reducible exact Below.refl _ _ | with_reducible assumption | with_reducible refine Below.setCell ?_ (by first | omega | (simp <;> omega)) _ | with_reducible refine balloc ?_ _ | with_reducible refine Below.drew ?_ | with_reducible refine bstep ?_ (by with_reducible assumption)))
              have hs_w4 : w3.heap.size ≤ w4.heap.size := hb.size
              clear hb
              go_wp2_with fail
              refine Calls.mono (HA _ (by repeat (first | with_reducible exact Below.refl _ _ | with_reducible assumption | with_reducible refine Below.setCell ?_ (by first | omega | (simp <;> omega)) _ | with_reducible refine balloc ?_ _ | with_reducible refine Below.drew ?_ | with_reducible refine bstep ?_ (by with_reducible assumption)))) ?_
              rintro e w5 ⟨rfl, hb⟩
              replace kt0 := cell_later hb kt0
              replace kt1 := cell_later hb kt1
              replace kt2 := cell_later hb kt2
              replace kq0 := cell_later hb kq0
              replace zt : w.heap.size < w5.heap.size := World.block_lt_of_cell? _ _ kt0
              have zt_w5 := zt
              replace zq : w.heap.size + 1 < w5.heap.size := World.block_lt_of_cell? _ _ kq0
              have zq_w5 := zq
              replace hb0 : Below w.heap.size w w5 := (by repeat (first | with_reducible exact Below.refl _ _ | with_reducible assumption | with_reducible refine Below.setCell ?_ (by first | omega | (simp <;> omega)) _ | with_reducible refine balloc ?_ _ | with_reducible refine Below.drew ?_ | with_reducible refine bstep ?_ (by with_reducible assumption)))
              have hs_w5 : w4.heap.size ≤ w5.heap.size := hb.size
              clear hb
              go_wp2
              go_ret
              exact ⟨rfl, (by repeat (first | with_reducible exact Below.refl _ _ | with_reducible assumption | with_reducible refine Below.setCell ?_ (by first | omega | (simp <;> omega)) _ | with_reducible refine balloc ?_ _ | with_reducible refine Below.drew ?_ | with_reducible refine bstep ?_ (by with_reducible assumption)))⟩
            · clear TF hp hpq
              go_enter Try.func5, Try.ntmps5
              go_wp2_with fail
              refine Calls.mono (head_c _) ?_
              rintro e w1 ⟨rfl, hb⟩
              have kt0 : w1.cell? ⟨w.heap.size, 0, none⟩ = some (.int .i64 s) := cell_later hb (by go_simp)
              have kt1 : w1.cell? ⟨w.heap.size, 1, none⟩ = some (.int .i64 p) := cell_later hb (by go_simp)
              have kt2 : w1.cell? ⟨w.heap.size, 2, none⟩ = some (.slice pp l.length cap) := cell_later hb (by go_simp)
              have kq0 : w1.cell? ⟨w.heap.size + 1, 0, none⟩ = some (.slice pq q.length cq) := cell_later hb (by go_simp)
              have zt : w.heap.size < w1.heap.size := World.block_lt_of_cell? _ _ kt0
              have zt_w1 := zt
              have zq : w.heap.size + 1 < w1.heap.size := World.block_lt_of_cell? _ _ kq0
              have zq_w1 := zq
              have hb0 : Below w.heap.size w w1 := (by repeat (first | with_reducible exact Below.refl _ _ | with_reducible assumption | with_reducible refine Below.setCell ?_ (by first | omega | (simp <;> omega)) _ | with_reducible refine balloc ?_ _ | with_reducible refine Below.drew ?_ | with_reducible refine bstep ?_ (by with_reducible assumption)))
              have hs_w1 := hb.size; (try simp only [World.size_alloc, World.size_setCell] at hs_w1)
              clear hb
              go_wp2_with fail
              refine Calls.mono (F1 _ (by repeat (first | with_reducible exact Below.refl _ _ | with_reducible assumption | with_reducible refine Below.setCell ?_ (by first | omega | (simp <;> omega)) _ | with_reducible refine balloc ?_ _ | with_reducible refine Below.drew ?_ | with_reducible refine bstep ?_ (by with_reducible assumption)))) ?_
              rintro e w2 ⟨rfl, hb⟩
              replace kt0 := cell_later hb kt0
              replace kt1 := cell_later hb kt1
              replace kt2 := cell_later hb kt2
              replace kq0 := cell_later hb kq0
              replace zt : w.heap.size < w2.heap.size := World.block_lt_of_cell? _ _ kt0
              have zt_w2 := zt
              replace zq : w.heap.size + 1 < w2.heap.size := World.block_lt_of_cell? _ _ kq0
              have zq_w2 := zq
              replace hb0 : Below w.heap.size w w2 := (by repeat (first | with_reducible exact Below.refl _ _ | with_reducible assumption | with_reducible refine Below.setCell ?_ (by first | omega | (simp <;> omega)) _ | with_reducible refine balloc ?_ _ | with_reducible refine Below.drew ?_ | with_reducible refine bstep ?_ (by with_reducible assumption)))
              have hs_w2 : w1.heap.size ≤ w2.heap.size := hb.size
              clear hb
              go_wp2_with fail
              refine Calls.mono (V1 _ (by repeat (first | with_reducible exact Below.refl _ _ | with_reducible assumption | with_reducible refine Below.setCell ?_ (by first | omega | (simp <;> omega)) _ | with_reducible refine balloc ?_ _ | with_reducible refine Below.drew ?_ | with_reducible refine bstep ?_ (by with_reducible assumption)))) ?_
              rintro e w3 ⟨rfl, hb⟩
              replace kt0 := cell_later hb kt0
              replace kt1 := cell_later hb kt1
              replace kt2 := cell_later hb kt2
              replace kq0 := cell_later hb kq0
              replace zt : w.heap.size < w3.heap.size := World.block_lt_of_cell? _ _ kt0
              have zt_w3 := zt
              replace zq : w.heap.size + 1 < w3.heap.size := World.block_lt_of_cell? _ _ kq0
              have zq_w3 := zq
              replace hb0 : Below w.heap.size w w3 := (by repeat (first | with_reducible exact Below.refl _ _ | with_reducible assumption | with_reducible refine Below.setCell ?_ (by first | omega | (simp <;> omega)) _ | with_reducible refine balloc ?_ _ | with_reducible refine Below.drew ?_ | with_reducible refine bstep ?_ (by with_reducible assumption)))
              have hs_w3 : w2.heap.size ≤ w3.heap.size := hb.size
              clear hb
              rw [h1]
              go_wp2_with fail
              refine Calls.mono (last_c s p _ l.length cap _ ⟨vs1, vs2⟩ ⟨vp1, vp2⟩ ⟨vn1, vn2⟩) ?_
              rintro e w4 ⟨rfl, hb⟩
              replace kt0 := cell_later hb kt0
              replace kt1 := cell_later hb kt1
              replace kt2 := cell_later hb kt2
              replace kq0 := cell_later hb kq0
              replace zt : w.heap.size < w4.heap.size := World.block_lt_of_cell? _ _ kt0
              have zt_w4 := zt
              replace zq : w.heap.size + 1 < w4.heap.size := World.block_lt_of_cell? _ _ kq0
              have zq_w4 := zq
              replace hb0 : Below w.heap.size w w4 := (by repeat (first | with_reducible exact Below.refl _ _ | with_reducible assumption | with_reducible refine Below.setCell ?_ (by first | omega | (simp <;> omega)) _ | with_reducible refine balloc ?_ _ | with_reducible refine Below.drew ?_ | with_reducible refine bstep ?_ (by with_reducible assumption)))
              have hs_w4 : w3.heap.size ≤ w4.heap.size := hb.size
              clear hb
              go_wp2_with fail
              refine Calls.mono (HA _ (by repeat (first | with_reducible exact Below.refl _ _ | with_reducible assumption | with_reducible refine Below.setCell ?_ (by first | omega | (simp <;> omega)) _ | with_reducible refine balloc ?_ _ | with_reducible refine Below.drew ?_ | with_reducible refine bstep ?_ (by with_reducible assumption)))) ?_
              rintro e w5 ⟨rfl, hb⟩
              replace kt0 := cell_later hb kt0
              replace kt1 := cell_later hb kt1
              replace kt2 := cell_later hb kt2
              replace kq0 := cell_later hb kq0
              replace zt : w.heap.size < w5.heap.size := World.block_lt_of_cell? _ _ kt0
              have zt_w5 := zt
              replace zq : w.heap.size + 1 < w5.heap.size := World.block_lt_of_cell? _ _ kq0
              have zq_w5 := zq
              replace hb0 : Below w.heap.size w w5 := (by repeat (first | with_reducible exact Below.refl _ _ | with_reducible assumption | with_reducible refine Below.setCell ?_ (by first | omega | (simp <;> omega)) _ | with_reducible refine balloc ?_ _ | with_reducible refine Below.drew ?_ | with_reducible refine bstep ?_ (by with_reducible assumption)))
              have hs_w5 : w4.heap.size ≤ w5.heap.size := hb.size
              clear hb
              go_wp2
              go_ret
              exact ⟨rfl, (by repeat (first | with_reducible exact Below.refl _ _ | with_reducible assumption | with_reducible refine Below.setCell ?_ (by first | omega | (simp <;> omega)) _ | with_reducible refine balloc ?_ _ | with_reducible refine Below.drew ?_ | with_reducible refine bstep ?_ (by with_reducible assumption)))⟩
            · clear TF hp hpq
              go_enter Try.func5, Try.ntmps5
              go_wp2_with fail
              refine Calls.mono (head_c _) ?_
              rintro e w1 ⟨rfl, hb⟩
              have kt0 : w1.cell? ⟨w.heap.size, 0, none⟩ = some (.int .i64 s) := cell_later hb (by go_simp)
              have kt1 : w1.cell? ⟨w.heap.size, 1, none⟩ = some (.int .i64 p) := cell_later hb (by go_simp)
              have kt2 : w1.cell? ⟨w.heap.size, 2, none⟩ = some (.slice pp l.length cap) := cell_later hb (by go_simp)
              have kq0 : w1.cell? ⟨w.heap.size + 1, 0, none⟩ = some (.slice pq q.length cq) := cell_later hb (by go_simp)
              have zt : w.heap.size < w1.heap.size := World.block_lt_of_cell? _ _ kt0
              have zt_w1 := zt
              have zq : w.heap.size + 1 < w1.heap.size := World.block_lt_of_cell? _ _ kq0
              have zq_w1 := zq
              have hb0 : Below w.heap.size w w1 := (by repeat (first | with_reducible exact Below.refl _ _ | with_reducible assumption | with_reducible refine Below.setCell ?_ (by first | omega | (simp <;> omega)) _ | with_reducible refine balloc ?_ _ | with_reducible refine Below.drew ?_ | with_reducible refine bstep ?_ (by with_reducible assumption)))
              have hs_w1 := hb.size; (try simp only [World.size_alloc, World.size_setCell] at hs_w1)
              clear hb
              go_wp2_with fail
              refine Calls.mono (F1 _ (by repeat (first | with_reducible exact Below.refl _ _ | with_reducible assumption | with_reducible refine Below.setCell ?_ (by first | omega | (simp <;> omega)) _ | with_reducible refine balloc ?_ _ | with_reducible refine Below.drew ?_ | with_reducible refine bstep ?_ (by with_reducible assumption)))) ?_
              rintro e w2 ⟨rfl, hb⟩
              replace kt0 := cell_later hb kt0
              replace kt1 := cell_later hb kt1
              replace kt2 := cell_later hb kt2
              replace kq0 := cell_later hb kq0
              replace zt : w.heap.size < w2.heap.size := World.block_lt_of_cell? _ _ kt0
              have zt_w2 := zt
              replace zq : w.heap.size + 1 < w2.heap.size := World.block_lt_of_cell? _ _ kq0
              have zq_w2 := zq
              replace hb0 : Below w.heap.size w w2 := (by repeat (first | with_reducible exact Below.refl _ _ | with_reducible assumption | with_reducible refine Below.setCell ?_ (by first | omega | (simp <;> omega)) _ | with_reducible refine balloc ?_ _ | with_reducible refine Below.drew ?_ | with_reducible refine bstep ?_ (by with_reducible assumption)))
              have hs_w2 : w1.heap.size ≤ w2.heap.size := hb.size
              clear hb
              go_wp2_with fail
              refine Calls.mono (V1 _ (by repeat (first | with_reducible exact Below.refl _ _ | with_reducible assumption | with_reducible refine Below.setCell ?_ (by first | omega | (simp <;> omega)) _ | with_reducible refine balloc ?_ _ | with_reducible refine Below.drew ?_ | with_reducible refine bstep ?_ (by with_reducible assumption)))) ?_
              rintro e w3 ⟨rfl, hb⟩
              replace kt0 := cell_later hb kt0
              replace kt1 := cell_later hb kt1
              replace kt2 := cell_later hb kt2
              replace kq0 := cell_later hb kq0
              replace zt : w.heap.size < w3.heap.size := World.block_lt_of_cell? _ _ kt0
              have zt_w3 := zt
              replace zq : w.heap.size + 1 < w3.heap.size := World.block_lt_of_cell? _ _ kq0
              have zq_w3 := zq
              replace hb0 : Below w.heap.size w w3 := (by repeat (first | with_reducible exact Below.refl _ _ | with_reducible assumption | with_reducible refine Below.setCell ?_ (by first | omega | (simp <;> omega)) _ | with_reducible refine balloc ?_ _ | with_reducible refine Below.drew ?_ | with_reducible refine bstep ?_ (by with_reducible assumption)))
              have hs_w3 : w2.heap.size ≤ w3.heap.size := hb.size
              clear hb
              rw [h1]
              go_wp2_with fail
              refine Calls.mono (last_c s p _ l.length cap _ ⟨vs1, vs2⟩ ⟨vp1, vp2⟩ ⟨vn1, vn2⟩) ?_
              rintro e w4 ⟨rfl, hb⟩
              replace kt0 := cell_later hb kt0
              replace kt1 := cell_later hb kt1
              replace kt2 := cell_later hb kt2
              replace kq0 := cell_later hb kq0
              replace zt : w.heap.size < w4.heap.size := World.block_lt_of_cell? _ _ kt0
              have zt_w4 := zt
              replace zq : w.heap.size + 1 < w4.heap.size := World.block_lt_of_cell? _ _ kq0
              have zq_w4 := zq
              replace hb0 : Below w.heap.size w w4 := (by repeat (first | with_reducible exact Below.refl _ _ | with_reducible assumption | with_reducible refine Below.setCell ?_ (by first | omega | (simp <;> omega)) _ | with_reducible refine balloc ?_ _ | with_reducible refine Below.drew ?_ | with_reducible refine bstep ?_ (by with_reducible assumption)))
              have hs_w4 : w3.heap.size ≤ w4.heap.size := hb.size
              clear hb
              go_wp2_with fail
              refine Calls.mono (HA _ (by repeat (first | with_reducible exact Below.refl _ _ | with_reducible assumption | with_reducible refine Below.setCell ?_ (by first | omega | (simp <;> omega)) _ | with_reducible refine balloc ?_ _ | with_reducible refine Below.drew ?_ | with_reducible refine bstep ?_ (by with_reducible assumption)))) ?_
              rintro e w5 ⟨rfl, hb⟩
              replace kt0 := cell_later hb kt0
              replace kt1 := cell_later hb kt1
              replace kt2 := cell_later hb kt2
              replace kq0 := cell_later hb kq0
              replace zt : w.heap.size < w5.heap.size := World.block_lt_of_cell? _ _ kt0
              have zt_w5 := zt
              replace zq : w.heap.size + 1 < w5.heap.size := World.block_lt_of_cell? _ _ kq0
              have zq_w5 := zq
              replace hb0 : Below w.heap.size w w5 := (by repeat (first | with_reducible exact Below.refl _ _ | with_reducible assumption | with_reducible refine Below.setCell ?_ (by first | omega | (simp <;> omega)) _ | with_reducible refine balloc ?_ _ | with_reducible refine Below.drew ?_ | with_reducible refine bstep ?_ (by with_reducible assumption)))
              have hs_w5 : w4.heap.size ≤ w5.heap.size := hb.size
              clear hb
              go_wp2
              go_ret
              exact ⟨rfl, (by repeat (first | with_reducible exact Below.refl _ _ | with_reducible assumption | with_reducible refine Below.setCell ?_ (by first | omega | (simp <;> omega)) _ | with_reducible refine balloc ?_ _ | with_reducible refine Below.drew ?_ | with_reducible refine bstep ?_ (by with_reducible assumption)))⟩
            · obtain ⟨k, hk, d1, d2, d3, t0, t1⟩ := TF rfl (by omega) hc hc2
              obtain ⟨b, off, rfl, hr⟩ := hp (by omega)
              obtain ⟨bq, oq, rfl, hqc⟩ := hpq (by omega)
              have hbl := hr.lt (by omega)
              have VC : ∀ (j : Nat) (kk : Int) W, kk = j → j < l.length → Below w.heap.size w W → W.cell? ⟨w.heap.size, 2, none⟩ = some (.slice (some ⟨b, off, none⟩) l.length cap) → W.cell? ⟨w.heap.size + 1, 0, none⟩ = some (.slice (some ⟨bq, oq, none⟩) q.length cq) → Calls Try.prog 32 #[(.int .i64 kk), .pointer (some ⟨w.heap.size, 0, none⟩), .pointer (some ⟨w.heap.size + 1, 0, none⟩)] W (Ret W (.int .i64 (vaK l q j))) := fun j kk W e hj hb h1 h2 => value_c s p j kk w.heap.size (w.heap.size + 1) b off cap bq oq cq l q W e hj (by omega) (by omega) (all_gt' vall j) hql h1 h2 (hr.below hbl hb) (cell_below hb (hqc j (by omega)) (World.block_lt_of_cell? _ _ (hqc j (by omega)))) (hqb j (by omega))
              have hkk := k
              have HT0 := Lib.hid t0
              have HT1 := Lib.hid t1
              clear t0 t1 TF hkk hqb hqc hr
              have y1 : (k : Int) < (l.length : Int) := by omega
              by_cases c4 : (t - s) % p = 0
              · obtain ⟨r1, r2⟩ := HT0.out c4
                have VK := VC k
                clear VC HT0 HT1
                generalize vaK l q k = va at *
                have tm : Int.tmod (t - s) p = 0 := by rw [Int.tmod_eq_emod_of_nonneg d3]; exact c4
                have hcs2 : bt < va ∨ va < bt ∨ bt = va := by omega
                rcases hcs2 with hw | hw | rfl
                · go_enter Try.func5, Try.ntmps5
                  go_wp2_with fail
                  refine Calls.mono (head_c _) ?_
                  rintro e w1 ⟨rfl, hb⟩
                  have kt0 : w1.cell? ⟨w.heap.size, 0, none⟩ = some (.int .i64 s) := cell_later hb (by go_simp)
                  have kt1 : w1.cell? ⟨w.heap.size, 1, none⟩ = some (.int .i64 p) := cell_later hb (by go_simp)
                  have kt2 : w1.cell? ⟨w.heap.size, 2, none⟩ = some (.slice (some ⟨b, off, none⟩) l.length cap) := cell_later hb (by go_simp)
                  have kq0 : w1.cell? ⟨w.heap.size + 1, 0, none⟩ = some (.slice (some ⟨bq, oq, none⟩) q.length cq) := cell_later hb (by go_simp)
                  have zt : w.heap.size < w1.heap.size := World.block_lt_of_cell? _ _ kt0
                  have zt_w1 := zt
                  have zq : w.heap.size + 1 < w1.heap.size := World.block_lt_of_cell? _ _ kq0
                  have zq_w1 := zq
                  have hb0 : Below w.heap.size w w1 := (by repeat (first | with_reducible exact Below.refl _ _ | with_reducible assumption | with_reducible refine Below.setCell ?_ (by first | omega | (simp <;> omega)) _ | with_reducible refine balloc ?_ _ | with_reducible refine Below.drew ?_ | with_reducible refine bstep ?_ (by with_reducible assumption)))
                  have hs_w1 := hb.size; (try simp only [World.size_alloc, World.size_setCell] at hs_w1)
                  clear hb
                  go_wp2_with fail
                  refine Calls.mono (F1 _ (by repeat (first | with_reducible exact Below.refl _ _ | with_reducible assumption | with_reducible refine Below.setCell ?_ (by first | omega | (simp <;> omega)) _ | with_reducible refine balloc ?_ _ | with_reducible refine Below.drew ?_ | with_reducible refine bstep ?_ (by with_reducible assumption)))) ?_
                  rintro e w2 ⟨rfl, hb⟩
                  replace kt0 := cell_later hb kt0
                  replace kt1 := cell_later hb kt1
                  replace kt2 := cell_later hb kt2
                  replace kq0 := cell_later hb kq0
                  replace zt : w.heap.size < w2.heap.size := World.block_lt_of_cell? _ _ kt0
                  have zt_w2 := zt
                  replace zq : w.heap.size + 1 < w2.heap.size := World.block_lt_of_cell? _ _ kq0
                  have zq_w2 := zq
                  replace hb0 : Below w.heap.size w w2 := (by repeat (first | with_reducible exact Below.refl _ _ | with_reducible assumption | with_reducible refine Below.setCell ?_ (by first | omega | (simp <;> omega)) _ | with_reducible refine balloc ?_ _ | with_reducible refine Below.drew ?_ | with_reducible refine bstep ?_ (by with_reducible assumption)))
                  have hs_w2 : w1.heap.size ≤ w2.heap.size := hb.size
                  clear hb
                  go_wp2_with fail
                  refine Calls.mono (V1 _ (by repeat (first | with_reducible exact Below.refl _ _ | with_reducible assumption | with_reducible refine Below.setCell ?_ (by first | omega | (simp <;> omega)) _ | with_reducible refine balloc ?_ _ | with_reducible refine Below.drew ?_ | with_reducible refine bstep ?_ (by with_reducible assumption)))) ?_
                  rintro e w3 ⟨rfl, hb⟩
                  replace kt0 := cell_later hb kt0
                  replace kt1 := cell_later hb kt1
                  replace kt2 := cell_later hb kt2
                  replace kq0 := cell_later hb kq0
                  replace zt : w.heap.size < w3.heap.size := World.block_lt_of_cell? _ _ kt0
                  have zt_w3 := zt
                  replace zq : w.heap.size + 1 < w3.heap.size := World.block_lt_of_cell? _ _ kq0
                  have zq_w3 := zq
                  replace hb0 : Below w.heap.size w w3 := (by repeat (first | with_reducible exact Below.refl _ _ | with_reducible assumption | with_reducible refine Below.setCell ?_ (by first | omega | (simp <;> omega)) _ | with_reducible refine balloc ?_ _ | with_reducible refine Below.drew ?_ | with_reducible refine bstep ?_ (by with_reducible assumption)))
                  have hs_w3 : w2.heap.size ≤ w3.heap.size := hb.size
                  clear hb
                  rw [h1]
                  go_wp2_with fail
                  refine Calls.mono (last_c s p _ l.length cap _ ⟨vs1, vs2⟩ ⟨vp1, vp2⟩ ⟨vn1, vn2⟩) ?_
                  rintro e w4 ⟨rfl, hb⟩
                  replace kt0 := cell_later hb kt0
                  replace kt1 := cell_later hb kt1
                  replace kt2 := cell_later hb kt2
                  replace kq0 := cell_later hb kq0
                  replace zt : w.heap.size < w4.heap.size := World.block_lt_of_cell? _ _ kt0
                  have zt_w4 := zt
                  replace zq : w.heap.size + 1 < w4.heap.size := World.block_lt_of_cell? _ _ kq0
                  have zq_w4 := zq
                  replace hb0 : Below w.heap.size w w4 := (by repeat (first | with_reducible exact Below.refl _ _ | with_reducible assumption | with_reducible refine Below.setCell ?_ (by first | omega | (simp <;> omega)) _ | with_reducible refine balloc ?_ _ | with_reducible refine Below.drew ?_ | with_reducible refine bstep ?_ (by with_reducible assumption)))
                  have hs_w4 : w3.heap.size ≤ w4.heap.size := hb.size
                  clear hb
                  go_wp2_with fail
                  refine Calls.mono (HA _ (by repeat (first | with_reducible exact Below.refl _ _ | with_reducible assumption | with_reducible refine Below.setCell ?_ (by first | omega | (simp <;> omega)) _ | with_reducible refine balloc ?_ _ | with_reducible refine Below.drew ?_ | with_reducible refine bstep ?_ (by with_reducible assumption)))) ?_
                  rintro e w5 ⟨rfl, hb⟩
                  replace kt0 := cell_later hb kt0
                  replace kt1 := cell_later hb kt1
                  replace kt2 := cell_later hb kt2
                  replace kq0 := cell_later hb kq0
                  replace zt : w.heap.size < w5.heap.size := World.block_lt_of_cell? _ _ kt0
                  have zt_w5 := zt
                  replace zq : w.heap.size + 1 < w5.heap.size := World.block_lt_of_cell? _ _ kq0
                  have zq_w5 := zq
                  replace hb0 : Below w.heap.size w w5 := (by repeat (first | with_reducible exact Below.refl _ _ | with_reducible assumption | with_reducible refine Below.setCell ?_ (by first | omega | (simp <;> omega)) _ | with_reducible refine balloc ?_ _ | with_reducible refine Below.drew ?_ | with_reducible refine bstep ?_ (by with_reducible assumption)))
                  have hs_w5 : w4.heap.size ≤ w5.heap.size := hb.size
                  clear hb
                  go_wp2_with fail
                  refine Calls.mono (VK _ _ (by first | rfl | exact d1 | exact d2 | omega) hk (by repeat (first | with_reducible exact Below.refl _ _ | with_reducible assumption | with_reducible refine Below.setCell ?_ (by first | omega | (simp <;> omega)) _ | with_reducible refine balloc ?_ _ | with_reducible refine Below.drew ?_ | with_reducible refine bstep ?_ (by with_reducible assumption))) (by go_simp) (by go_simp)) ?_
                  rintro e w6 ⟨rfl, hb⟩
                  replace kt0 := cell_later hb (cell_al _ kt0)
                  replace kt1 := cell_later hb (cell_al _ kt1)
                  replace kt2 := cell_later hb (cell_al _ kt2)
                  replace kq0 := cell_later hb (cell_al _ kq0)
                  have ka0 : w6.cell? ⟨w5.heap.size, 0, none⟩ = some (.int .i64 a1) := cell_later hb (by go_simp)
                  have ka1 : w6.cell? ⟨w5.heap.size, 1, none⟩ = some (.int .i64 a2) := cell_later hb (by go_simp)
                  replace zt : w.heap.size < w6.heap.size := World.block_lt_of_cell? _ _ kt0
                  have zt_w6 := zt
                  replace zq : w.heap.size + 1 < w6.heap.size := World.block_lt_of_cell? _ _ kq0
                  have zq_w6 := zq
                  have za : w5.heap.size < w6.heap.size := World.block_lt_of_cell? _ _ ka0
                  have za_w6 := za
                  replace hb0 : Below w.heap.size w w6 := (by repeat (first | with_reducible exact Below.refl _ _ | with_reducible assumption | with_reducible refine Below.setCell ?_ (by first | omega | (simp <;> omega)) _ | with_reducible refine balloc ?_ _ | with_reducible refine Below.drew ?_ | with_reducible refine bstep ?_ (by with_reducible assumption)))
                  have hs_w6 := hb.size; (try simp only [World.size_alloc, World.size_setCell] at hs_w6)
                  clear hb
                  go_wp2
                  go_ret
                  exact ⟨rfl, (by repeat (first | with_reducible exact Below.refl _ _ | with_reducible assumption | with_reducible refine Below.setCell ?_ (by first | omega | (simp <;> omega)) _ | with_reducible refine balloc ?_ _ | with_reducible refine Below.drew ?_ | with_reducible refine bstep ?_ (by with_reducible assumption)))⟩
                · go_enter Try.func5, Try.ntmps5
                  go_wp2_with fail
                  refine Calls.mono (head_c _) ?_
                  rintro e w1 ⟨rfl, hb⟩
                  have kt0 : w1.cell? ⟨w.heap.size, 0, none⟩ = some (.int .i64 s) := cell_later hb (by go_simp)
                  have kt1 : w1.cell? ⟨w.heap.size, 1, none⟩ = some (.int .i64 p) := cell_later hb (by go_simp)
                  have kt2 : w1.cell? ⟨w.heap.size, 2, none⟩ = some (.slice (some ⟨b, off, none⟩) l.length cap) := cell_later hb (by go_simp)
                  have kq0 : w1.cell? ⟨w.heap.size + 1, 0, none⟩ = some (.slice (some ⟨bq, oq, none⟩) q.length cq) := cell_later hb (by go_simp)
                  have zt : w.heap.size < w1.heap.size := World.block_lt_of_cell? _ _ kt0
                  have zt_w1 := zt
                  have zq : w.heap.size + 1 < w1.heap.size := World.block_lt_of_cell? _ _ kq0
                  have zq_w1 := zq
                  have hb0 : Below w.heap.size w w1 := (by repeat (first | with_reducible exact Below.refl _ _ | with_reducible assumption | with_reducible refine Below.setCell ?_ (by first | omega | (simp <;> omega)) _ | with_reducible refine balloc ?_ _ | with_reducible refine Below.drew ?_ | with_reducible refine bstep ?_ (by with_reducible assumption)))
                  have hs_w1 := hb.size; (try simp only [World.size_alloc, World.size_setCell] at hs_w1)
                  clear hb
                  go_wp2_with fail
                  refine Calls.mono (F1 _ (by repeat (first | with_reducible exact Below.refl _ _ | with_reducible assumption | with_reducible refine Below.setCell ?_ (by first | omega | (simp <;> omega)) _ | with_reducible refine balloc ?_ _ | with_reducible refine Below.drew ?_ | with_reducible refine bstep ?_ (by with_reducible assumption)))) ?_
                  rintro e w2 ⟨rfl, hb⟩
                  replace kt0 := cell_later hb kt0
                  replace kt1 := cell_later hb kt1
                  replace kt2 := cell_later hb kt2
                  replace kq0 := cell_later hb kq0
                  replace zt : w.heap.size < w2.heap.size := World.block_lt_of_cell? _ _ kt0
                  have zt_w2 := zt
                  replace zq : w.heap.size + 1 < w2.heap.size := World.block_lt_of_cell? _ _ kq0
                  have zq_w2 := zq
                  replace hb0 : Below w.heap.size w w2 := (by repeat (first | with_reducible exact Below.refl _ _ | with_reducible assumption | with_reducible refine Below.setCell ?_ (by first | omega | (simp <;> omega)) _ | with_reducible refine balloc ?_ _ | with_reducible refine Below.drew ?_ | with_reducible refine bstep ?_ (by with_reducible assumption)))
                  have hs_w2 : w1.heap.size ≤ w2.heap.size := hb.size
                  clear hb
                  go_wp2_with fail
                  refine Calls.mono (V1 _ (by repeat (first | with_reducible exact Below.refl _ _ | with_reducible assumption | with_reducible refine Below.setCell ?_ (by first | omega | (simp <;> omega)) _ | with_reducible refine balloc ?_ _ | with_reducible refine Below.drew ?_ | with_reducible refine bstep ?_ (by with_reducible assumption)))) ?_
                  rintro e w3 ⟨rfl, hb⟩
                  replace kt0 := cell_later hb kt0
                  replace kt1 := cell_later hb kt1
                  replace kt2 := cell_later hb kt2
                  replace kq0 := cell_later hb kq0
                  replace zt : w.heap.size < w3.heap.size := World.block_lt_of_cell? _ _ kt0
                  have zt_w3 := zt
                  replace zq : w.heap.size + 1 < w3.heap.size := World.block_lt_of_cell? _ _ kq0
                  have zq_w3 := zq
                  replace hb0 : Below w.heap.size w w3 := (by repeat (first | with_reducible exact Below.refl _ _ | with_reducible assumption | with_reducible refine Below.setCell ?_ (by first | omega | (simp <;> omega)) _ | with_reducible refine balloc ?_ _ | with_reducible refine Below.drew ?_ | with_reducible refine bstep ?_ (by with_reducible assumption)))
                  have hs_w3 : w2.heap.size ≤ w3.heap.size := hb.size
                  clear hb
                  rw [h1]
                  go_wp2_with fail
                  refine Calls.mono (last_c s p _ l.length cap _ ⟨vs1, vs2⟩ ⟨vp1, vp2⟩ ⟨vn1, vn2⟩) ?_
                  rintro e w4 ⟨rfl, hb⟩
                  replace kt0 := cell_later hb kt0
                  replace kt1 := cell_later hb kt1
                  replace kt2 := cell_later hb kt2
                  replace kq0 := cell_later hb kq0
                  replace zt : w.heap.size < w4.heap.size := World.block_lt_of_cell? _ _ kt0
                  have zt_w4 := zt
                  replace zq : w.heap.size + 1 < w4.heap.size := World.block_lt_of_cell? _ _ kq0
                  have zq_w4 := zq
                  replace hb0 : Below w.heap.size w w4 := (by repeat (first | with_reducible exact Below.refl _ _ | with_reducible assumption | with_reducible refine Below.setCell ?_ (by first | omega | (simp <;> omega)) _ | with_reducible refine balloc ?_ _ | with_reducible refine Below.drew ?_ | with_reducible refine bstep ?_ (by with_reducible assumption)))
                  have hs_w4 : w3.heap.size ≤ w4.heap.size := hb.size
                  clear hb
                  go_wp2_with fail
                  refine Calls.mono (HA _ (by repeat (first | with_reducible exact Below.refl _ _ | with_reducible assumption | with_reducible refine Below.setCell ?_ (by first | omega | (simp <;> omega)) _ | with_reducible refine balloc ?_ _ | with_reducible refine Below.drew ?_ | with_reducible refine bstep ?_ (by with_reducible assumption)))) ?_
                  rintro e w5 ⟨rfl, hb⟩
                  replace kt0 := cell_later hb kt0
                  replace kt1 := cell_later hb kt1
                  replace kt2 := cell_later hb kt2
                  replace kq0 := cell_later hb kq0
                  replace zt : w.heap.size < w5.heap.size := World.block_lt_of_cell? _ _ kt0
                  have zt_w5 := zt
                  replace zq : w.heap.size + 1 < w5.heap.size := World.block_lt_of_cell? _ _ kq0
                  have zq_w5 := zq
                  replace hb0 : Below w.heap.size w w5 := (by repeat (first | with_reducible exact Below.refl _ _ | with_reducible assumption | with_reducible refine Below.setCell ?_ (by first | omega | (simp <;> omega)) _ | with_reducible refine balloc ?_ _ | with_reducible refine Below.drew ?_ | with_reducible refine bstep ?_ (by with_reducible assumption)))
                  have hs_w5 : w4.heap.size ≤ w5.heap.size := hb.size
                  clear hb
                  go_wp2_with fail
                  refine Calls.mono (VK _ _ (by first | rfl | exact d1 | exact d2 | omega) hk (by repeat (first | with_reducible exact Below.refl _ _ | with_reducible assumption | with_reducible refine Below.setCell ?_ (by first | omega | (simp <;> omega)) _ | with_reducible refine balloc ?_ _ | with_reducible refine Below.drew ?_ | with_reducible refine bstep ?_ (by with_reducible assumption))) (by go_simp) (by go_simp)) ?_
                  rintro e w6 ⟨rfl, hb⟩
                  replace kt0 := cell_later hb (cell_al _ kt0)
                  replace kt1 := cell_later hb (cell_al _ kt1)
                  replace kt2 := cell_later hb (cell_al _ kt2)
                  replace kq0 := cell_later hb (cell_al _ kq0)
                  have ka0 : w6.cell? ⟨w5.heap.size, 0, none⟩ = some (.int .i64 a1) := cell_later hb (by go_simp)
                  have ka1 : w6.cell? ⟨w5.heap.size, 1, none⟩ = some (.int .i64 a2) := cell_later hb (by go_simp)
                  replace zt : w.heap.size < w6.heap.size := World.block_lt_of_cell? _ _ kt0
                  have zt_w6 := zt
                  replace zq : w.heap.size + 1 < w6.heap.size := World.block_lt_of_cell? _ _ kq0
                  have zq_w6 := zq
                  have za : w5.heap.size < w6.heap.size := World.block_lt_of_cell? _ _ ka0
                  have za_w6 := za
                  replace hb0 : Below w.heap.size w w6 := (by repeat (first | with_reducible exact Below.refl _ _ | with_reducible assumption | with_reducible refine Below.setCell ?_ (by first | omega | (simp <;> omega)) _ | with_reducible refine balloc ?_ _ | with_reducible refine Below.drew ?_ | with_reducible refine bstep ?_ (by with_reducible assumption)))
                  have hs_w6 := hb.size; (try simp only [World.size_alloc, World.size_setCell] at hs_w6)
                  clear hb
                  go_wp2
                  go_ret
                  exact ⟨rfl, (by repeat (first | with_reducible exact Below.refl _ _ | with_reducible assumption | with_reducible refine Below.setCell ?_ (by first | omega | (simp <;> omega)) _ | with_reducible refine balloc ?_ _ | with_reducible refine Below.drew ?_ | with_reducible refine bstep ?_ (by with_reducible assumption)))⟩
                · go_enter Try.func5, Try.ntmps5
                  go_wp2_with fail
                  refine Calls.mono (head_c _) ?_
                  rintro e w1 ⟨rfl, hb⟩
                  have kt0 : w1.cell? ⟨w.heap.size, 0, none⟩ = some (.int .i64 s) := cell_later hb (by go_simp)
                  have kt1 : w1.cell? ⟨w.heap.size, 1, none⟩ = some (.int .i64 p) := cell_later hb (by go_simp)
                  have kt2 : w1.cell? ⟨w.heap.size, 2, none⟩ = some (.slice (some ⟨b, off, none⟩) l.length cap) := cell_later hb (by go_simp)
                  have kq0 : w1.cell? ⟨w.heap.size + 1, 0, none⟩ = some (.slice (some ⟨bq, oq, none⟩) q.length cq) := cell_later hb (by go_simp)
                  have zt : w.heap.size < w1.heap.size := World.block_lt_of_cell? _ _ kt0
                  have zt_w1 := zt
                  have zq : w.heap.size + 1 < w1.heap.size := World.block_lt_of_cell? _ _ kq0
                  have zq_w1 := zq
                  have hb0 : Below w.heap.size w w1 := (by repeat (first | with_reducible exact Below.refl _ _ | with_reducible assumption | with_reducible refine Below.setCell ?_ (by first | omega | (simp <;> omega)) _ | with_reducible refine balloc ?_ _ | with_reducible refine Below.drew ?_ | with_reducible refine bstep ?_ (by with_reducible assumption)))
                  have hs_w1 := hb.size; (try simp only [World.size_alloc, World.size_setCell] at hs_w1)
                  clear hb
                  go_wp2_with fail
                  refine Calls.mono (F1 _ (by repeat (first | with_reducible exact Below.refl _ _ | with_reducible assumption | with_reducible refine Below.setCell ?_ (by first | omega | (simp <;> omega)) _ | with_reducible refine balloc ?_ _ | with_reducible refine Below.drew ?_ | with_reducible refine bstep ?_ (by with_reducible assumption)))) ?_
                  rintro e w2 ⟨rfl, hb⟩
                  replace kt0 := cell_later hb kt0
                  replace kt1 := cell_later hb kt1
                  replace kt2 := cell_later hb kt2
                  replace kq0 := cell_later hb kq0
                  replace zt : w.heap.size < w2.heap.size := World.block_lt_of_cell? _ _ kt0
                  have zt_w2 := zt
                  replace zq : w.heap.size + 1 < w2.heap.size := World.block_lt_of_cell? _ _ kq0
                  have zq_w2 := zq
                  replace hb0 : Below w.heap.size w w2 := (by repeat (first | with_reducible exact Below.refl _ _ | with_reducible assumption | with_reducible refine Below.setCell ?_ (by first | omega | (simp <;> omega)) _ | with_reducible refine balloc ?_ _ | with_reducible refine Below.drew ?_ | with_reducible refine bstep ?_ (by with_reducible assumption)))
                  have hs_w2 : w1.heap.size ≤ w2.heap.size := hb.size
                  clear hb
                  go_wp2_with fail
                  refine Calls.mono (V1 _ (by repeat (first | with_reducible exact Below.refl _ _ | with_reducible assumption | with_reducible refine Below.setCell ?_ (by first | omega | (simp <;> omega)) _ | with_reducible refine balloc ?_ _ | with_reducible refine Below.drew ?_ | with_reducible refine bstep ?_ (by with_reducible assumption)))) ?_
                  rintro e w3 ⟨rfl, hb⟩
                  replace kt0 := cell_later hb kt0
                  replace kt1 := cell_later hb kt1
                  replace kt2 := cell_later hb kt2
                  replace kq0 := cell_later hb kq0
                  replace zt : w.heap.size < w3.heap.size := World.block_lt_of_cell? _ _ kt0
                  have zt_w3 := zt
                  replace zq : w.heap.size + 1 < w3.heap.size := World.block_lt_of_cell? _ _ kq0
                  have zq_w3 := zq
                  replace hb0 : Below w.heap.size w w3 := (by repeat (first | with_reducible exact Below.refl _ _ | with_reducible assumption | with_reducible refine Below.setCell ?_ (by first | omega | (simp <;> omega)) _ | with_reducible refine balloc ?_ _ | with_reducible refine Below.drew ?_ | with_reducible refine bstep ?_ (by with_reducible assumption)))
                  have hs_w3 : w2.heap.size ≤ w3.heap.size := hb.size
                  clear hb
                  rw [h1]
                  go_wp2_with fail
                  refine Calls.mono (last_c s p _ l.length cap _ ⟨vs1, vs2⟩ ⟨vp1, vp2⟩ ⟨vn1, vn2⟩) ?_
                  rintro e w4 ⟨rfl, hb⟩
                  replace kt0 := cell_later hb kt0
                  replace kt1 := cell_later hb kt1
                  replace kt2 := cell_later hb kt2
                  replace kq0 := cell_later hb kq0
                  replace zt : w.heap.size < w4.heap.size := World.block_lt_of_cell? _ _ kt0
                  have zt_w4 := zt
                  replace zq : w.heap.size + 1 < w4.heap.size := World.block_lt_of_cell? _ _ kq0
                  have zq_w4 := zq
                  replace hb0 : Below w.heap.size w w4 := (by repeat (first | with_reducible exact Below.refl _ _ | with_reducible assumption | with_reducible refine Below.setCell ?_ (by first | omega | (simp <;> omega)) _ | with_reducible refine balloc ?_ _ | with_reducible refine Below.drew ?_ | with_reducible refine bstep ?_ (by with_reducible assumption)))
                  have hs_w4 : w3.heap.size ≤ w4.heap.size := hb.size
                  clear hb
                  go_wp2_with fail
                  refine Calls.mono (HA _ (by repeat (first | with_reducible exact Below.refl _ _ | with_reducible assumption | with_reducible refine Below.setCell ?_ (by first | omega | (simp <;> omega)) _ | with_reducible refine balloc ?_ _ | with_reducible refine Below.drew ?_ | with_reducible refine bstep ?_ (by with_reducible assumption)))) ?_
                  rintro e w5 ⟨rfl, hb⟩
                  replace kt0 := cell_later hb kt0
                  replace kt1 := cell_later hb kt1
                  replace kt2 := cell_later hb kt2
                  replace kq0 := cell_later hb kq0
                  replace zt : w.heap.size < w5.heap.size := World.block_lt_of_cell? _ _ kt0
                  have zt_w5 := zt
                  replace zq : w.heap.size + 1 < w5.heap.size := World.block_lt_of_cell? _ _ kq0
                  have zq_w5 := zq
                  replace hb0 : Below w.heap.size w w5 := (by repeat (first | with_reducible exact Below.refl _ _ | with_reducible assumption | with_reducible refine Below.setCell ?_ (by first | omega | (simp <;> omega)) _ | with_reducible refine balloc ?_ _ | with_reducible refine Below.drew ?_ | with_reducible refine bstep ?_ (by with_reducible assumption)))
                  have hs_w5 : w4.heap.size ≤ w5.heap.size := hb.size
                  clear hb
                  go_wp2_with fail
                  refine Calls.mono (VK _ _ (by first | rfl | exact d1 | exact d2 | omega) hk (by repeat (first | with_reducible exact Below.refl _ _ | with_reducible assumption | with_reducible refine Below.setCell ?_ (by first | omega | (simp <;> omega)) _ | with_reducible refine balloc ?_ _ | with_reducible refine Below.drew ?_ | with_reducible refine bstep ?_ (by with_reducible assumption))) (by go_simp) (by go_simp)) ?_
                  rintro e w6 ⟨rfl, hb⟩
                  replace kt0 := cell_later hb (cell_al _ kt0)
                  replace kt1 := cell_later hb (cell_al _ kt1)
                  replace kt2 := cell_later hb (cell_al _ kt2)
                  replace kq0 := cell_later hb (cell_al _ kq0)
                  have ka0 : w6.cell? ⟨w5.heap.size, 0, none⟩ = some (.int .i64 a1) := cell_later hb (by go_simp)
                  have ka1 : w6.cell? ⟨w5.heap.size, 1, none⟩ = some (.int .i64 a2) := cell_later hb (by go_simp)
                  replace zt : w.heap.size < w6.heap.size := World.block_lt_of_cell? _ _ kt0
                  have zt_w6 := zt
                  replace zq : w.heap.size + 1 < w6.heap.size := World.block_lt_of_cell? _ _ kq0
                  have zq_w6 := zq
                  have za : w5.heap.size < w6.heap.size := World.block_lt_of_cell? _ _ ka0
                  have za_w6 := za
                  replace hb0 : Below w.heap.size w w6 := (by repeat (first | with_reducible exact Below.refl _ _ | with_reducible assumption | with_reducible refine Below.setCell ?_ (by first | omega | (simp <;> omega)) _ | with_reducible refine balloc ?_ _ | with_reducible refine Below.drew ?_ | with_reducible refine bstep ?_ (by with_reducible assumption)))
                  have hs_w6 := hb.size; (try simp only [World.size_alloc, World.size_setCell] at hs_w6)
                  clear hb
                  go_wp2
                  go_ret
                  exact ⟨rfl, (by repeat (first | with_reducible exact Below.refl _ _ | with_reducible assumption | with_reducible refine Below.setCell ?_ (by first | omega | (simp <;> omega)) _ | with_reducible refine balloc ?_ _ | with_reducible refine Below.drew ?_ | with_reducible refine bstep ?_ (by with_reducible assumption)))⟩
              · obtain ⟨hk1, r1, r2⟩ := HT1.out c4
                have VK := VC k
                have VK1 := VC (k + 1)
                clear VC HT0 HT1
                generalize vaK l q k = va at *
                generalize vaK l q (k + 1) = vb at *
                have tm : ¬ (Int.tmod (t - s) p = 0) := by rw [Int.tmod_eq_emod_of_nonneg d3]; exact c4
                have y2 : (k : Int) + 1 < (l.length : Int) := by omega
                have hcs2 : bt < min va vb ∨ (min va vb ≤ bt ∧ max va vb < bt) ∨ (min va vb ≤ bt ∧ bt ≤ max va vb) := by omega
                have z1 : a1 ≤ va := by omega
                have z2 : va ≤ a2 := by omega
                rcases hcs2 with hw | ⟨hw, hw2⟩ | ⟨hw, hw2⟩
                · go_enter Try.func5, Try.ntmps5
                  go_wp2_with fail
                  refine Calls.mono (head_c _) ?_
                  rintro e w1 ⟨rfl, hb⟩
                  have kt0 : w1.cell? ⟨w.heap.size, 0, none⟩ = some (.int .i64 s) := cell_later hb (by go_simp)
                  have kt1 : w1.cell? ⟨w.heap.size, 1, none⟩ = some (.int .i64 p) := cell_later hb (by go_simp)
                  have kt2 : w1.cell? ⟨w.heap.size, 2, none⟩ = some (.slice (some ⟨b, off, none⟩) l.length cap) := cell_later hb (by go_simp)
                  have kq0 : w1.cell? ⟨w.heap.size + 1, 0, none⟩ = some (.slice (some ⟨bq, oq, none⟩) q.length cq) := cell_later hb (by go_simp)
                  have zt : w.heap.size < w1.heap.size := World.block_lt_of_cell? _ _ kt0
                  have zt_w1 := zt
                  have zq : w.heap.size + 1 < w1.heap.size := World.block_lt_of_cell? _ _ kq0
                  have zq_w1 := zq
                  have hb0 : Below w.heap.size w w1 := (by repeat (first | with_reducible exact Below.refl _ _ | with_reducible assumption | with_reducible refine Below.setCell ?_ (by first | omega | (simp <;> omega)) _ | with_reducible refine balloc ?_ _ | with_reducible refine Below.drew ?_ | with_reducible refine bstep ?_ (by with_reducible assumption)))
                  have hs_w1 := hb.size; (try simp only [World.size_alloc, World.size_setCell] at hs_w1)
                  clear hb
                  go_wp2_with fail
                  refine Calls.mono (F1 _ (by repeat (first | with_reducible exact Below.refl _ _ | with_reducible assumption | with_reducible refine Below.setCell ?_ (by first | omega | (simp <;> omega)) _ | with_reducible refine balloc ?_ _ | with_reducible refine Below.drew ?_ | with_reducible refine bstep ?_ (by with_reducible assumption)))) ?_
                  rintro e w2 ⟨rfl, hb⟩
                  replace kt0 := cell_later hb kt0
                  replace kt1 := cell_later hb kt1
                  replace kt2 := cell_later hb kt2
                  replace kq0 := cell_later hb kq0
                  replace zt : w.heap.size < w2.heap.size := World.block_lt_of_cell? _ _ kt0
                  have zt_w2 := zt
                  replace zq : w.heap.size + 1 < w2.heap.size := World.block_lt_of_cell? _ _ kq0
                  have zq_w2 := zq
                  replace hb0 : Below w.heap.size w w2 := (by repeat (first | with_reducible exact Below.refl _ _ | with_reducible assumption | with_reducible refine Below.setCell ?_ (by first | omega | (simp <;> omega)) _ | with_reducible refine balloc ?_ _ | with_reducible refine Below.drew ?_ | with_reducible refine bstep ?_ (by with_reducible assumption)))
                  have hs_w2 : w1.heap.size ≤ w2.heap.size := hb.size
                  clear hb
                  go_wp2_with fail
                  refine Calls.mono (V1 _ (by repeat (first | with_reducible exact Below.refl _ _ | with_reducible assumption | with_reducible refine Below.setCell ?_ (by first | omega | (simp <;> omega)) _ | with_reducible refine balloc ?_ _ | with_reducible refine Below.drew ?_ | with_reducible refine bstep ?_ (by with_reducible assumption)))) ?_
                  rintro e w3 ⟨rfl, hb⟩
                  replace kt0 := cell_later hb kt0
                  replace kt1 := cell_later hb kt1
                  replace kt2 := cell_later hb kt2
                  replace kq0 := cell_later hb kq0
                  replace zt : w.heap.size < w3.heap.size := World.block_lt_of_cell? _ _ kt0
                  have zt_w3 := zt
                  replace zq : w.heap.size + 1 < w3.heap.size := World.block_lt_of_cell? _ _ kq0
                  have zq_w3 := zq
                  replace hb0 : Below w.heap.size w w3 := (by repeat (first | with_reducible exact Below.refl _ _ | with_reducible assumption | with_reducible refine Below.setCell ?_ (by first | omega | (simp <;> omega)) _ | with_reducible refine balloc ?_ _ | with_reducible refine Below.drew ?_ | with_reducible refine bstep ?_ (by with_reducible assumption)))
                  have hs_w3 : w2.heap.size ≤ w3.heap.size := hb.size
                  clear hb
                  rw [h1]
                  go_wp2_with fail
                  refine Calls.mono (last_c s p _ l.length cap _ ⟨vs1, vs2⟩ ⟨vp1, vp2⟩ ⟨vn1, vn2⟩) ?_
                  rintro e w4 ⟨rfl, hb⟩
                  replace kt0 := cell_later hb kt0
                  replace kt1 := cell_later hb kt1
                  replace kt2 := cell_later hb kt2
                  replace kq0 := cell_later hb kq0
                  replace zt : w.heap.size < w4.heap.size := World.block_lt_of_cell? _ _ kt0
                  have zt_w4 := zt
                  replace zq : w.heap.size + 1 < w4.heap.size := World.block_lt_of_cell? _ _ kq0
                  have zq_w4 := zq
                  replace hb0 : Below w.heap.size w w4 := (by repeat (first | with_reducible exact Below.refl _ _ | with_reducible assumption | with_reducible refine Below.setCell ?_ (by first | omega | (simp <;> omega)) _ | with_reducible refine balloc ?_ _ | with_reducible refine Below.drew ?_ | with_reducible refine bstep ?_ (by with_reducible assumption)))
                  have hs_w4 : w3.heap.size ≤ w4.heap.size := hb.size
                  clear hb
                  go_wp2_with fail
                  refine Calls.mono (HA _ (by repeat (first | with_reducible exact Below.refl _ _ | with_reducible assumption | with_reducible refine Below.setCell ?_ (by first | omega | (simp <;> omega)) _ | with_reducible refine balloc ?_ _ | with_reducible refine Below.drew ?_ | with_reducible refine bstep ?_ (by with_reducible assumption)))) ?_
                  rintro e w5 ⟨rfl, hb⟩
                  replace kt0 := cell_later hb kt0
                  replace kt1 := cell_later hb kt1
                  replace kt2 := cell_later hb kt2
                  replace kq0 := cell_later hb kq0
                  replace zt : w.heap.size < w5.heap.size := World.block_lt_of_cell? _ _ kt0
                  have zt_w5 := zt
                  replace zq : w.heap.size + 1 < w5.heap.size := World.block_lt_of_cell? _ _ kq0
                  have zq_w5 := zq
                  replace hb0 : Below w.heap.size w w5 := (by repeat (first | with_reducible exact Below.refl _ _ | with_reducible assumption | with_reducible refine Below.setCell ?_ (by first | omega | (simp <;> omega)) _ | with_reducible refine balloc ?_ _ | with_reducible refine Below.drew ?_ | with_reducible refine bstep ?_ (by with_reducible assumption)))
                  have hs_w5 : w4.heap.size ≤ w5.heap.size := hb.size
                  clear hb
                  go_wp2_with fail
                  refine Calls.mono (VK _ _ (by first | rfl | exact d1 | exact d2 | omega) hk (by repeat (first | with_reducible exact Below.refl _ _ | with_reducible assumption | with_reducible refine Below.setCell ?_ (by first | omega | (simp <;> omega)) _ | with_reducible refine balloc ?_ _ | with_reducible refine Below.drew ?_ | with_reducible refine bstep ?_ (by with_reducible assumption))) (by go_simp) (by go_simp)) ?_
                  rintro e w6 ⟨rfl, hb⟩
                  replace kt0 := cell_later hb (cell_al _ kt0)
                  replace kt1 := cell_later hb (cell_al _ kt1)
                  replace kt2 := cell_later hb (cell_al _ kt2)
                  replace kq0 := cell_later hb (cell_al _ kq0)
                  have ka0 : w6.cell? ⟨w5.heap.size, 0, none⟩ = some (.int .i64 a1) := cell_later hb (by go_simp)
                  have ka1 : w6.cell? ⟨w5.heap.size, 1, none⟩ = some (.int .i64 a2) := cell_later hb (by go_simp)
                  replace zt : w.heap.size < w6.heap.size := World.block_lt_of_cell? _ _ kt0
                  have zt_w6 := zt
                  replace zq : w.heap.size + 1 < w6.heap.size := World.block_lt_of_cell? _ _ kq0
                  have zq_w6 := zq
                  have za : w5.heap.size < w6.heap.size := World.block_lt_of_cell? _ _ ka0
                  have za_w6 := za
                  replace hb0 : Below w.heap.size w w6 := (by repeat (first | with_reducible exact Below.refl _ _ | with_reducible assumption | with_reducible refine Below.setCell ?_ (by first | omega | (simp <;> omega)) _ | with_reducible refine balloc ?_ _ | with_reducible refine Below.drew ?_ | with_reducible refine bstep ?_ (by with_reducible assumption)))
                  have hs_w6 := hb.size; (try simp only [World.size_alloc, World.size_setCell] at hs_w6)
                  clear hb
                  go_wp2_with fail
                  refine Calls.mono (VK1 _ _ (by first | rfl | simp | omega) hk1 (by repeat (first | with_reducible exact Below.refl _ _ | with_reducible assumption | with_reducible refine Below.setCell ?_ (by first | omega | (simp <;> omega)) _ | with_reducible refine balloc ?_ _ | with_reducible refine Below.drew ?_ | with_reducible refine bstep ?_ (by with_reducible assumption))) (by go_simp) (by go_simp)) ?_
                  rintro e w7 ⟨rfl, hb⟩
                  replace kt0 := cell_later hb kt0
                  replace kt1 := cell_later hb kt1
                  replace kt2 := cell_later hb kt2
                  replace kq0 := cell_later hb kq0
                  replace ka0 := cell_later hb ka0
                  replace ka1 := cell_later hb ka1
                  replace zt : w.heap.size < w7.heap.size := World.block_lt_of_cell? _ _ kt0
                  have zt_w7 := zt
                  replace zq : w.heap.size + 1 < w7.heap.size := World.block_lt_of_cell? _ _ kq0
                  have zq_w7 := zq
                  replace za : w5.heap.size < w7.heap.size := World.block_lt_of_cell? _ _ ka0
                  have za_w7 := za
                  replace hb0 : Below w.heap.size w w7 := (by repeat (first | with_reducible exact Below.refl _ _ | with_reducible assumption | with_reducible refine Below.setCell ?_ (by first | omega | (simp <;> omega)) _ | with_reducible refine balloc ?_ _ | with_reducible refine Below.drew ?_ | with_reducible refine bstep ?_ (by with_reducible assumption)))
                  have hs_w7 : w6.heap.size ≤ w7.heap.size := hb.size
                  clear hb
                  go_wp2
                  all_goals first
                    | (go_ret; exact ⟨rfl, (by repeat (first | with_reducible exact Below.refl _ _ | with_reducible assumption | with_reducible refine Below.setCell ?_ (by first | omega | (simp <;> omega)) _ | with_reducible refine balloc ?_ _ | with_reducible refine Below.drew ?_ | with_reducible refine bstep ?_ (by with_reducible assumption)))⟩)
                    | (exfalso; omega)
                · go_enter Try.func5, Try.ntmps5
                  go_wp2_with fail
                  refine Calls.mono (head_c _) ?_
                  rintro e w1 ⟨rfl, hb⟩
                  have kt0 : w1.cell? ⟨w.heap.size, 0, none⟩ = some (.int .i64 s) := cell_later hb (by go_simp)
                  have kt1 : w1.cell? ⟨w.heap.size, 1, none⟩ = some (.int .i64 p) := cell_later hb (by go_simp)
                  have kt2 : w1.cell? ⟨w.heap.size, 2, none⟩ = some (.slice (some ⟨b, off, none⟩) l.length cap) := cell_later hb (by go_simp)
                  have kq0 : w1.cell? ⟨w.heap.size + 1, 0, none⟩ = some (.slice (some ⟨bq, oq, none⟩) q.length cq) := cell_later hb (by go_simp)
                  have zt : w.heap.size < w1.heap.size := World.block_lt_of_cell? _ _ kt0
                  have zt_w1 := zt
                  have zq : w.heap.size + 1 < w1.heap.size := World.block_lt_of_cell? _ _ kq0
                  have zq_w1 := zq
                  have hb0 : Below w.heap.size w w1 := (by repeat (first | with_reducible exact Below.refl _ _ | with_reducible assumption | with_reducible refine Below.setCell ?_ (by first | omega | (simp <;> omega)) _ | with_reducible refine balloc ?_ _ | with_reducible refine Below.drew ?_ | with_reducible refine bstep ?_ (by with_reducible assumption)))
                  have hs_w1 := hb.size; (try simp only [World.size_alloc, World.size_setCell] at hs_w1)
                  clear hb
                  go_wp2_with fail
                  refine Calls.mono (F1 _ (by repeat (first | with_reducible exact Below.refl _ _ | with_reducible assumption | with_reducible refine Below.setCell ?_ (by first | omega | (simp <;> omega)) _ | with_reducible refine balloc ?_ _ | with_reducible refine Below.drew ?_ | with_reducible refine bstep ?_ (by with_reducible assumption)))) ?_
                  rintro e w2 ⟨rfl, hb⟩
                  replace kt0 := cell_later hb kt0
                  replace kt1 := cell_later hb kt1
                  replace kt2 := cell_later hb kt2
                  replace kq0 := cell_later hb kq0
                  replace zt : w.heap.size < w2.heap.size := World.block_lt_of_cell? _ _ kt0
                  have zt_w2 := zt
                  replace zq : w.heap.size + 1 < w2.heap.size := World.block_lt_of_cell? _ _ kq0
                  have zq_w2 := zq
                  replace hb0 : Below w.heap.size w w2 := (by repeat (first | with_reducible exact Below.refl _ _ | with_reducible assumption | with_reducible refine Below.setCell ?_ (by first | omega | (simp <;> omega)) _ | with_reducible refine balloc ?_ _ | with_reducible refine Below.drew ?_ | with_reducible refine bstep ?_ (by with_reducible assumption)))
                  have hs_w2 : w1.heap.size ≤ w2.heap.size := hb.size
                  clear hb
                  go_wp2_with fail
                  refine Calls.mono (V1 _ (by repeat (first | with_reducible exact Below.refl _ _ | with_reducible assumption | with_reducible refine Below.setCell ?_ (by first | omega | (simp <;> omega)) _ | with_reducible refine balloc ?_ _ | with_reducible refine Below.drew ?_ | with_reducible refine bstep ?_ (by with_reducible assumption)))) ?_
                  rintro e w3 ⟨rfl, hb⟩
                  replace kt0 := cell_later hb kt0
                  replace kt1 := cell_later hb kt1
                  replace kt2 := cell_later hb kt2
                  replace kq0 := cell_later hb kq0
                  replace zt : w.heap.size < w3.heap.size := World.block_lt_of_cell? _ _ kt0
                  have zt_w3 := zt
                  replace zq : w.heap.size + 1 < w3.heap.size := World.block_lt_of_cell? _ _ kq0
                  have zq_w3 := zq
                  replace hb0 : Below w.heap.size w w3 := (by repeat (first | with_reducible exact Below.refl _ _ | with_reducible assumption | with_reducible refine Below.setCell ?_ (by first | omega | (simp <;> omega)) _ | with_reducible refine balloc ?_ _ | with_reducible refine Below.drew ?_ | with_reducible refine bstep ?_ (by with_reducible assumption)))
                  have hs_w3 : w2.heap.size ≤ w3.heap.size := hb.size
                  clear hb
                  rw [h1]
                  go_wp2_with fail
                  refine Calls.mono (last_c s p _ l.length cap _ ⟨vs1, vs2⟩ ⟨vp1, vp2⟩ ⟨vn1, vn2⟩) ?_
                  rintro e w4 ⟨rfl, hb⟩
                  replace kt0 := cell_later hb kt0
                  replace kt1 := cell_later hb kt1
                  replace kt2 := cell_later hb kt2
                  replace kq0 := cell_later hb kq0
                  replace zt : w.heap.size < w4.heap.size := World.block_lt_of_cell? _ _ kt0
                  have zt_w4 := zt
                  replace zq : w.heap.size + 1 < w4.heap.size := World.block_lt_of_cell? _ _ kq0
                  have zq_w4 := zq
                  replace hb0 : Below w.heap.size w w4 := (by repeat (first | with_reducible exact Below.refl _ _ | with_reducible assumption | with_reducible refine Below.setCell ?_ (by first | omega | (simp <;> omega)) _ | with_reducible refine balloc ?_ _ | with_reducible refine Below.drew ?_ | with_reducible refine bstep ?_ (by with_reducible assumption)))
                  have hs_w4 : w3.heap.size ≤ w4.heap.size := hb.size
                  clear hb
                  go_wp2_with fail
                  refine Calls.mono (HA _ (by repeat (first | with_reducible exact Below.refl _ _ | with_reducible assumption | with_reducible refine Below.setCell ?_ (by first | omega | (simp <;> omega)) _ | with_reducible refine balloc ?_ _ | with_reducible refine Below.drew ?_ | with_reducible refine bstep ?_ (by with_reducible assumption)))) ?_
                  rintro e w5 ⟨rfl, hb⟩
                  replace kt0 := cell_later hb kt0
                  replace kt1 := cell_later hb kt1
                  replace kt2 := cell_later hb kt2
                  replace kq0 := cell_later hb kq0
                  replace zt : w.heap.size < w5.heap.size := World.block_lt_of_cell? _ _ kt0
                  have zt_w5 := zt
                  replace zq : w.heap.size + 1 < w5.heap.size := World.block_lt_of_cell? _ _ kq0
                  have zq_w5 := zq
                  replace hb0 : Below w.heap.size w w5 := (by repeat (first | with_reducible exact Below.refl _ _ | with_reducible assumption | with_reducible refine Below.setCell ?_ (by first | omega | (simp <;> omega)) _ | with_reducible refine balloc ?_ _ | with_reducible refine Below.drew ?_ | with_reducible refine bstep ?_ (by with_reducible assumption)))
                  have hs_w5 : w4.heap.size ≤ w5.heap.size := hb.size
                  clear hb
                  go_wp2_with fail
                  refine Calls.mono (VK _ _ (by first | rfl | exact d1 | exact d2 | omega) hk (by repeat (first | with_reducible exact Below.refl _ _ | with_reducible assumption | with_reducible refine Below.setCell ?_ (by first | omega | (simp <;> omega)) _ | with_reducible refine balloc ?_ _ | with_reducible refine Below.drew ?_ | with_reducible refine bstep ?_ (by with_reducible assumption))) (by go_simp) (by go_simp)) ?_
                  rintro e w6 ⟨rfl, hb⟩
                  replace kt0 := cell_later hb (cell_al _ kt0)
                  replace kt1 := cell_later hb (cell_al _ kt1)
                  replace kt2 := cell_later hb (cell_al _ kt2)
                  replace kq0 := cell_later hb (cell_al _ kq0)
                  have ka0 : w6.cell? ⟨w5.heap.size, 0, none⟩ = some (.int .i64 a1) := cell_later hb (by go_simp)
                  have ka1 : w6.cell? ⟨w5.heap.size, 1, none⟩ = some (.int .i64 a2) := cell_later hb (by go_simp)
                  replace zt : w.heap.size < w6.heap.size := World.block_lt_of_cell? _ _ kt0
                  have zt_w6 := zt
                  replace zq : w.heap.size + 1 < w6.heap.size := World.block_lt_of_cell? _ _ kq0
                  have zq_w6 := zq
                  have za : w5.heap.size < w6.heap.size := World.block_lt_of_cell? _ _ ka0
                  have za_w6 := za
                  replace hb0 : Below w.heap.size w w6 := (by repeat (first | with_reducible exact Below.refl _ _ | with_reducible assumption | with_reducible refine Below.setCell ?_ (by first | omega | (simp <;> omega)) _ | with_reducible refine balloc ?_ _ | with_reducible refine Below.drew ?_ | with_reducible refine bstep ?_ (by with_reducible assumption)))
                  have hs_w6 := hb.size; (try simp only [World.size_alloc, World.size_setCell] at hs_w6)
                  clear hb
                  go_wp2_with fail
                  refine Calls.mono (VK1 _ _ (by first | rfl | simp | omega) hk1 (by repeat (first | with_reducible exact Below.refl _ _ | with_reducible assumption | with_reducible refine Below.setCell ?_ (by first | omega | (simp <;> omega)) _ | with_reducible refine balloc ?_ _ | with_reducible refine Below.drew ?_ | with_reducible refine bstep ?_ (by with_reducible assumption))) (by go_simp) (by go_simp)) ?_
                  rintro e w7 ⟨rfl, hb⟩
                  replace kt0 := cell_later hb kt0
                  replace kt1 := cell_later hb kt1
                  replace kt2 := cell_later hb kt2
                  replace kq0 := cell_later hb kq0
                  replace ka0 := cell_later hb ka0
                  replace ka1 := cell_later hb ka1
                  replace zt : w.heap.size < w7.heap.size := World.block_lt_of_cell? _ _ kt0
                  have zt_w7 := zt
                  replace zq : w.heap.size + 1 < w7.heap.size := World.block_lt_of_cell? _ _ kq0
                  have zq_w7 := zq
                  replace za : w5.heap.size < w7.heap.size := World.block_lt_of_cell? _ _ ka0
                  have za_w7 := za
                  replace hb0 : Below w.heap.size w w7 := (by repeat (first | with_reducible exact Below.refl _ _ | with_reducible assumption | with_reducible refine Below.setCell ?_ (by first | omega | (simp <;> omega)) _ | with_reducible refine balloc ?_ _ | with_reducible refine Below.drew ?_ | with_reducible refine bstep ?_ (by with_reducible assumption)))
                  have hs_w7 : w6.heap.size ≤ w7.heap.size := hb.size
                  clear hb
                  go_wp2
                  all_goals first
                    | (go_ret; exact ⟨rfl, (by repeat (first | with_reducible exact Below.refl _ _ | with_reducible assumption | with_reducible refine Below.setCell ?_ (by first | omega | (simp <;> omega)) _ | with_reducible refine balloc ?_ _ | with_reducible refine Below.drew ?_ | with_reducible refine bstep ?_ (by with_reducible assumption)))⟩)
                    | (exfalso; omega)
                · have z3 : a1 ≤ bt := by omega
                  have z4 : bt ≤ a2 := by omega
                  go_enter Try.func5, Try.ntmps5
                  go_wp2_with fail
                  refine Calls.mono (head_c _) ?_
                  rintro e w1 ⟨rfl, hb⟩
                  have kt0 : w1.cell? ⟨w.heap.size, 0, none⟩ = some (.int .i64 s) := cell_later hb (by go_simp)
                  have kt1 : w1.cell? ⟨w.heap.size, 1, none⟩ = some (.int .i64 p) := cell_later hb (by go_simp)
                  have kt2 : w1.cell? ⟨w.heap.size, 2, none⟩ = some (.slice (some ⟨b, off, none⟩) l.length cap) := cell_later hb (by go_simp)
                  have kq0 : w1.cell? ⟨w.heap.size + 1, 0, none⟩ = some (.slice (some ⟨bq, oq, none⟩) q.length cq) := cell_later hb (by go_simp)
                  have zt : w.heap.size < w1.heap.size := World.block_lt_of_cell? _ _ kt0
                  have zt_w1 := zt
                  have zq : w.heap.size + 1 < w1.heap.size := World.block_lt_of_cell? _ _ kq0
                  have zq_w1 := zq
                  have hb0 : Below w.heap.size w w1 := (by repeat (first | with_reducible exact Below.refl _ _ | with_reducible assumption | with_reducible refine Below.setCell ?_ (by first | omega | (simp <;> omega)) _ | with_reducible refine balloc ?_ _ | with_reducible refine Below.drew ?_ | with_reducible refine bstep ?_ (by with_reducible assumption)))
                  have hs_w1 := hb.size; (try simp only [World.size_alloc, World.size_setCell] at hs_w1)
                  clear hb
                  go_wp2_with fail
                  refine Calls.mono (F1 _ (by repeat (first | with_reducible exact Below.refl _ _ | with_reducible assumption | with_reducible refine Below.setCell ?_ (by first | omega | (simp <;> omega)) _ | with_reducible refine balloc ?_ _ | with_reducible refine Below.drew ?_ | with_reducible refine bstep ?_ (by with_reducible assumption)))) ?_
                  rintro e w2 ⟨rfl, hb⟩
                  replace kt0 := cell_later hb kt0
                  replace kt1 := cell_later hb kt1
                  replace kt2 := cell_later hb kt2
                  replace kq0 := cell_later hb kq0
                  replace zt : w.heap.size < w2.heap.size := World.block_lt_of_cell? _ _ kt0
                  have zt_w2 := zt
                  replace zq : w.heap.size + 1 < w2.heap.size := World.block_lt_of_cell? _ _ kq0
                  have zq_w2 := zq
                  replace hb0 : Below w.heap.size w w2 := (by repeat (first | with_reducible exact Below.refl _ _ | with_reducible assumption | with_reducible refine Below.setCell ?_ (by first | omega | (simp <;> omega)) _ | with_reducible refine balloc ?_ _ | with_reducible refine Below.drew ?_ | with_reducible refine bstep ?_ (by with_reducible assumption)))
                  have hs_w2 : w1.heap.size ≤ w2.heap.size := hb.size
                  clear hb
                  go_wp2_with fail
                  refine Calls.mono (V1 _ (by repeat (first | with_reducible exact Below.refl _ _ | with_reducible assumption | with_reducible refine Below.setCell ?_ (by first | omega | (simp <;> omega)) _ | with_reducible refine balloc ?_ _ | with_reducible refine Below.drew ?_ | with_reducible refine bstep ?_ (by with_reducible assumption)))) ?_
                  rintro e w3 ⟨rfl, hb⟩
                  replace kt0 := cell_later hb kt0
                  replace kt1 := cell_later hb kt1
                  replace kt2 := cell_later hb kt2
                  replace kq0 := cell_later hb kq0
                  replace zt : w.heap.size < w3.heap.size := World.block_lt_of_cell? _ _ kt0
                  have zt_w3 := zt
                  replace zq : w.heap.size + 1 < w3.heap.size := World.block_lt_of_cell? _ _ kq0
                  have zq_w3 := zq
                  replace hb0 : Below w.heap.size w w3 := (by repeat (first | with_reducible exact Below.refl _ _ | with_reducible assumption | with_reducible refine Below.setCell ?_ (by first | omega | (simp <;> omega)) _ | with_reducible refine balloc ?_ _ | with_reducible refine Below.drew ?_ | with_reducible refine bstep ?_ (by with_reducible assumption)))
                  have hs_w3 : w2.heap.size ≤ w3.heap.size := hb.size
                  clear hb
                  rw [h1]
                  go_wp2_with fail
                  refine Calls.mono (last_c s p _ l.length cap _ ⟨vs1, vs2⟩ ⟨vp1, vp2⟩ ⟨vn1, vn2⟩) ?_
                  rintro e w4 ⟨rfl, hb⟩
                  replace kt0 := cell_later hb kt0
                  replace kt1 := cell_later hb kt1
                  replace kt2 := cell_later hb kt2
                  replace kq0 := cell_later hb kq0
                  replace zt : w.heap.size < w4.heap.size := World.block_lt_of_cell? _ _ kt0
                  have zt_w4 := zt
                  replace zq : w.heap.size + 1 < w4.heap.size := World.block_lt_of_cell? _ _ kq0
                  have zq_w4 := zq
                  replace hb0 : Below w.heap.size w w4 := (by repeat (first | with_reducible exact Below.refl _ _ | with_reducible assumption | with_reducible refine Below.setCell ?_ (by first | omega | (simp <;> omega)) _ | with_reducible refine balloc ?_ _ | with_reducible refine Below.drew ?_ | with_reducible refine bstep ?_ (by with_reducible assumption)))
                  have hs_w4 : w3.heap.size ≤ w4.heap.size := hb.size
                  clear hb
                  go_wp2_with fail
                  refine Calls.mono (HA _ (by repeat (first | with_reducible exact Below.refl _ _ | with_reducible assumption | with_reducible refine Below.setCell ?_ (by first | omega | (simp <;> omega)) _ | with_reducible refine balloc ?_ _ | with_reducible refine Below.drew ?_ | with_reducible refine bstep ?_ (by with_reducible assumption)))) ?_
                  rintro e w5 ⟨rfl, hb⟩
                  replace kt0 := cell_later hb kt0
                  replace kt1 := cell_later hb kt1
                  replace kt2 := cell_later hb kt2
                  replace kq0 := cell_later hb kq0
                  replace zt : w.heap.size < w5.heap.size := World.block_lt_of_cell? _ _ kt0
                  have zt_w5 := zt
                  replace zq : w.heap.size + 1 < w5.heap.size := World.block_lt_of_cell? _ _ kq0
                  have zq_w5 := zq
                  replace hb0 : Below w.heap.size w w5 := (by repeat (first | with_reducible exact Below.refl _ _ | with_reducible assumption | with_reducible refine Below.setCell ?_ (by first | omega | (simp <;> omega)) _ | with_reducible refine balloc ?_ _ | with_reducible refine Below.drew ?_ | with_reducible refine bstep ?_ (by with_reducible assumption)))
                  have hs_w5 : w4.heap.size ≤ w5.heap.size := hb.size
                  clear hb
                  go_wp2_with fail
                  refine Calls.mono (VK _ _ (by first | rfl | exact d1 | exact d2 | omega) hk (by repeat (first | with_reducible exact Below.refl _ _ | with_reducible assumption | with_reducible refine Below.setCell ?_ (by first | omega | (simp <;> omega)) _ | with_reducible refine balloc ?_ _ | with_reducible refine Below.drew ?_ | with_reducible refine bstep ?_ (by with_reducible assumption))) (by go_simp) (by go_simp)) ?_
                  rintro e w6 ⟨rfl, hb⟩
                  replace kt0 := cell_later hb (cell_al _ kt0)
                  replace kt1 := cell_later hb (cell_al _ kt1)
                  replace kt2 := cell_later hb (cell_al _ kt2)
                  replace kq0 := cell_later hb (cell_al _ kq0)
                  have ka0 : w6.cell? ⟨w5.heap.size, 0, none⟩ = some (.int .i64 a1) := cell_later hb (by go_simp)
                  have ka1 : w6.cell? ⟨w5.heap.size, 1, none⟩ = some (.int .i64 a2) := cell_later hb (by go_simp)
                  replace zt : w.heap.size < w6.heap.size := World.block_lt_of_cell? _ _ kt0
                  have zt_w6 := zt
                  replace zq : w.heap.size + 1 < w6.heap.size := World.block_lt_of_cell? _ _ kq0
                  have zq_w6 := zq
                  have za : w5.heap.size < w6.heap.size := World.block_lt_of_cell? _ _ ka0
                  have za_w6 := za
                  replace hb0 : Below w.heap.size w w6 := (by repeat (first | with_reducible exact Below.refl _ _ | with_reducible assumption | with_reducible refine Below.setCell ?_ (by first | omega | (simp <;> omega)) _ | with_reducible refine balloc ?_ _ | with_reducible refine Below.drew ?_ | with_reducible refine bstep ?_ (by with_reducible assumption)))
                  have hs_w6 := hb.size; (try simp only [World.size_alloc, World.size_setCell] at hs_w6)
                  clear hb
                  go_wp2_with fail
                  refine Calls.mono (VK1 _ _ (by first | rfl | simp | omega) hk1 (by repeat (first | with_reducible exact Below.refl _ _ | with_reducible assumption | with_reducible refine Below.setCell ?_ (by first | omega | (simp <;> omega)) _ | with_reducible refine balloc ?_ _ | with_reducible refine Below.drew ?_ | with_reducible refine bstep ?_ (by with_reducible assumption))) (by go_simp) (by go_simp)) ?_
                  rintro e w7 ⟨rfl, hb⟩
                  replace kt0 := cell_later hb kt0
                  replace kt1 := cell_later hb kt1
                  replace kt2 := cell_later hb kt2
                  replace kq0 := cell_later hb kq0
                  replace ka0 := cell_later hb ka0
                  replace ka1 := cell_later hb ka1
                  replace zt : w.heap.size < w7.heap.size := World.block_lt_of_cell? _ _ kt0
                  have zt_w7 := zt
                  replace zq : w.heap.size + 1 < w7.heap.size := World.block_lt_of_cell? _ _ kq0
                  have zq_w7 := zq
                  replace za : w5.heap.size < w7.heap.size := World.block_lt_of_cell? _ _ ka0
                  have za_w7 := za
                  replace hb0 : Below w.heap.size w w7 := (by repeat (first | with_reducible exact Below.refl _ _ | with_reducible assumption | with_reducible refine Below.setCell ?_ (by first | omega | (simp <;> omega)) _ | with_reducible refine balloc ?_ _ | with_reducible refine Below.drew ?_ | with_reducible refine bstep ?_ (by with_reducible assumption)))
                  have hs_w7 : w6.heap.size ≤ w7.heap.size := hb.size
                  clear hb
                  go_wp2
                  all_goals first
                    | (go_ret; exact ⟨rfl, (by repeat (first | with_reducible exact Below.refl _ _ | with_reducible assumption | with_reducible refine Below.setCell ?_ (by first | omega | (simp <;> omega)) _ | with_reducible refine balloc ?_ _ | with_reducible refine Below.drew ?_ | with_reducible refine bstep ?_ (by with_reducible assumption)))⟩)
                    | (exfalso; omega)


end Go.Proofs.Ytemogomligbgiaa.Ti
