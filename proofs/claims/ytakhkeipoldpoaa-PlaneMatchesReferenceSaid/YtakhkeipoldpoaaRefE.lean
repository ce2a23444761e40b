/- RefE: the law's walk. -/
import Derived.Test.YtakhkeipoldpoaaRefD
import Derived.Test.YtakhkeipoldpoaaLawMovedA
namespace Go.Proofs.Ytakhkeipoldpoaa
open Go.RowKit

set_option maxRecDepth 100000 in
set_option maxHeartbeats 3200000 in
theorem rwithin_c (p1 p2 a1 a2 b1 b2 : Int) (d : Int) (w : World) (hp : ok p1 p2) (ha : ok a1 a2) (hb : ok b1 b2) (hd : okd d) : Calls Try.prog 44 #[(.agg #[.int .i64 p1, .int .i64 p2]), (.agg #[.int .i64 a1, .int .i64 a2]), (.agg #[.int .i64 b1, .int .i64 b2]), (.int .i64 d)] w (Ret w (.bool (nearB p1 p2 a1 a2 b1 b2 d))) := by
  have R := cmp_ref p1 p2 a1 a2 b1 b2 d
  have val : nearB p1 p2 a1 a2 b1 b2 d = true ↔ cmpDist p1 p2 a1 a2 b1 b2 d ≤ 0 := by unfold nearB; rw [decide_eq_true_eq]
  obtain ⟨d1, d2⟩ := dd_sm hd
  obtain ⟨n1, n2⟩ := cross_bd a1 a2 b1 b2 p1 p2 ha hb hp
  obtain ⟨n3, n4⟩ := sq_bd a1 a2 b1 b2 ha hb
  by_cases f1 : dot a1 a2 b1 b2 p1 p2 ≤ 0
  ·
    have V := Lib.hid (val.trans (R.1 f1).1)
    clear R val
    go_enter Try.func44, Try.ntmps44
    go_wp2_with fail
    refine (minus_c b1 b2 a1 a2 _ hb ha).mono ?_
    rintro e w1 ⟨rfl, hb1⟩
    have hc := (bcell hb1).1
    have kp0 : w1.cell? ⟨w.heap.size, 0, none⟩ = some (.int .i64 p1) := by rw [hc _ _ (by first | omega | (simp <;> omega))]; go_simp
    have kp1 : w1.cell? ⟨w.heap.size, 1, none⟩ = some (.int .i64 p2) := by rw [hc _ _ (by first | omega | (simp <;> omega))]; go_simp
    have ka0 : w1.cell? ⟨w.heap.size + 1, 0, none⟩ = some (.int .i64 a1) := by rw [hc _ _ (by first | omega | (simp <;> omega))]; go_simp
    have ka1 : w1.cell? ⟨w.heap.size + 1, 1, none⟩ = some (.int .i64 a2) := by rw [hc _ _ (by first | omega | (simp <;> omega))]; go_simp
    have kb0 : w1.cell? ⟨w.heap.size + 1 + 1, 0, none⟩ = some (.int .i64 b1) := by rw [hc _ _ (by first | omega | (simp <;> omega))]; go_simp
    have kb1 : w1.cell? ⟨w.heap.size + 1 + 1, 1, none⟩ = some (.int .i64 b2) := by rw [hc _ _ (by first | omega | (simp <;> omega))]; go_simp
    have hb0 : Below w.heap.size w w1 := (by repeat (first | exact Below.refl _ _ | assumption | refine bstep ?_ (by assumption) | refine Below.drew ?_ | refine balloc ?_ _ | refine Below.setCell ?_ (by first | omega | (simp <;> omega)) _))
    clear hc hb1
    (try clear zkp0 zka0 zkb0)
    have zkp0 : w.heap.size < w1.heap.size := World.block_lt_of_cell? _ _ kp0
    have zka0 : w.heap.size + 1 < w1.heap.size := World.block_lt_of_cell? _ _ ka0
    have zkb0 : w.heap.size + 1 + 1 < w1.heap.size := World.block_lt_of_cell? _ _ kb0
    have hbW : Below w1.heap.size w1 w1 := Below.refl _ _
    have hc := (bcell hbW).1
    go_wp2_with fail
    obtain ⟨gv, hgv⟩ : ∃ g, g = w1.heap.size := ⟨_, rfl⟩
    obtain ⟨Wv, hWv⟩ : ∃ W, W = w1.alloc (Obj.cells #[(.int .i64 (b1 - a1)), (.int .i64 (b2 - a2))] 23) := ⟨_, rfl⟩
    replace kp0 : Wv.cell? ⟨w.heap.size, 0, none⟩ = some (.int .i64 p1) := by rw [hWv]; exact cell_al _ (cell_later hbW kp0)
    replace kp1 : Wv.cell? ⟨w.heap.size, 1, none⟩ = some (.int .i64 p2) := by rw [hWv]; exact cell_al _ (cell_later hbW kp1)
    replace ka0 : Wv.cell? ⟨w.heap.size + 1, 0, none⟩ = some (.int .i64 a1) := by rw [hWv]; exact cell_al _ (cell_later hbW ka0)
    replace ka1 : Wv.cell? ⟨w.heap.size + 1, 1, none⟩ = some (.int .i64 a2) := by rw [hWv]; exact cell_al _ (cell_later hbW ka1)
    replace kb0 : Wv.cell? ⟨w.heap.size + 1 + 1, 0, none⟩ = some (.int .i64 b1) := by rw [hWv]; exact cell_al _ (cell_later hbW kb0)
    replace kb1 : Wv.cell? ⟨w.heap.size + 1 + 1, 1, none⟩ = some (.int .i64 b2) := by rw [hWv]; exact cell_al _ (cell_later hbW kb1)
    have kv0 : Wv.cell? ⟨gv, 0, none⟩ = some (.int .i64 (b1 - a1)) := by rw [hWv, hgv]; go_simp
    have kv1 : Wv.cell? ⟨gv, 1, none⟩ = some (.int .i64 (b2 - a2)) := by rw [hWv, hgv]; go_simp
    replace hb0 : Below w.heap.size w Wv := by rw [hWv]; exact balloc (bstep hb0 hbW) _
    rw [← hWv, ← hgv]
    clear hWv hgv hbW hc
    (try clear zkp0 zka0 zkb0 zkv0)
    have zkp0 : w.heap.size < Wv.heap.size := World.block_lt_of_cell? _ _ kp0
    have zka0 : w.heap.size + 1 < Wv.heap.size := World.block_lt_of_cell? _ _ ka0
    have zkb0 : w.heap.size + 1 + 1 < Wv.heap.size := World.block_lt_of_cell? _ _ kb0
    have zkv0 : gv < Wv.heap.size := World.block_lt_of_cell? _ _ kv0
    have hbW : Below Wv.heap.size Wv Wv := Below.refl _ _
    have hc := (bcell hbW).1
    refine (minus_c p1 p2 a1 a2 _ hp ha).mono ?_
    rintro e w2 ⟨rfl, hb2⟩
    replace hbW := bstep hbW hb2
    clear hb2 hc
    have hc := (bcell hbW).1
    have hsz := hbW.size
    have ykp0 : w.heap.size < w2.heap.size := by omega
    have yka0 : w.heap.size + 1 < w2.heap.size := by omega
    have ykb0 : w.heap.size + 1 + 1 < w2.heap.size := by omega
    have ykv0 : gv < w2.heap.size := by omega
    go_wp2_with fail
    clear hsz ykp0 yka0 ykb0 ykv0
    obtain ⟨gw, hgw⟩ : ∃ g, g = w2.heap.size := ⟨_, rfl⟩
    obtain ⟨Ww, hWw⟩ : ∃ W, W = w2.alloc (Obj.cells #[(.int .i64 (p1 - a1)), (.int .i64 (p2 - a2))] 23) := ⟨_, rfl⟩
    replace kp0 : Ww.cell? ⟨w.heap.size, 0, none⟩ = some (.int .i64 p1) := by rw [hWw]; exact cell_al _ (cell_later hbW kp0)
    replace kp1 : Ww.cell? ⟨w.heap.size, 1, none⟩ = some (.int .i64 p2) := by rw [hWw]; exact cell_al _ (cell_later hbW kp1)
    replace ka0 : Ww.cell? ⟨w.heap.size + 1, 0, none⟩ = some (.int .i64 a1) := by rw [hWw]; exact cell_al _ (cell_later hbW ka0)
    replace ka1 : Ww.cell? ⟨w.heap.size + 1, 1, none⟩ = some (.int .i64 a2) := by rw [hWw]; exact cell_al _ (cell_later hbW ka1)
    replace kb0 : Ww.cell? ⟨w.heap.size + 1 + 1, 0, none⟩ = some (.int .i64 b1) := by rw [hWw]; exact cell_al _ (cell_later hbW kb0)
    replace kb1 : Ww.cell? ⟨w.heap.size + 1 + 1, 1, none⟩ = some (.int .i64 b2) := by rw [hWw]; exact cell_al _ (cell_later hbW kb1)
    replace kv0 : Ww.cell? ⟨gv, 0, none⟩ = some (.int .i64 (b1 - a1)) := by rw [hWw]; exact cell_al _ (cell_later hbW kv0)
    replace kv1 : Ww.cell? ⟨gv, 1, none⟩ = some (.int .i64 (b2 - a2)) := by rw [hWw]; exact cell_al _ (cell_later hbW kv1)
    have kw0 : Ww.cell? ⟨gw, 0, none⟩ = some (.int .i64 (p1 - a1)) := by rw [hWw, hgw]; go_simp
    have kw1 : Ww.cell? ⟨gw, 1, none⟩ = some (.int .i64 (p2 - a2)) := by rw [hWw, hgw]; go_simp
    replace hb0 : Below w.heap.size w Ww := by rw [hWw]; exact balloc (bstep hb0 hbW) _
    rw [← hWw, ← hgw]
    clear hWw hgw hbW hc
    (try clear zkp0 zka0 zkb0 zkv0 zkw0)
    have zkp0 : w.heap.size < Ww.heap.size := World.block_lt_of_cell? _ _ kp0
    have zka0 : w.heap.size + 1 < Ww.heap.size := World.block_lt_of_cell? _ _ ka0
    have zkb0 : w.heap.size + 1 + 1 < Ww.heap.size := World.block_lt_of_cell? _ _ kb0
    have zkv0 : gv < Ww.heap.size := World.block_lt_of_cell? _ _ kv0
    have zkw0 : gw < Ww.heap.size := World.block_lt_of_cell? _ _ kw0
    have hbW : Below Ww.heap.size Ww Ww := Below.refl _ _
    have hc := (bcell hbW).1
    refine (rdot_sq a1 a2 b1 b2 _ ha hb).mono ?_
    rintro e w1 ⟨rfl, hb1⟩
    replace hbW := bstep hbW hb1; clear hc; have hc := (bcell hbW).1; clear hb1
    go_wp2_with fail
    refine (rdot_c a1 a2 b1 b2 p1 p2 _ ha hb hp).mono ?_
    rintro e w1 ⟨rfl, hb1⟩
    replace hbW := bstep hbW hb1; clear hc; have hc := (bcell hbW).1; clear hb1
    go_wp2_with fail
    refine (rdot_sq a1 a2 p1 p2 _ ha hp).mono ?_
    rintro e w1 ⟨rfl, hb1⟩
    replace hbW := bstep hbW hb1; clear hc; have hc := (bcell hbW).1; clear hb1
    go_wp2
    go_ret
    refine ret_bool ?_ (by repeat (first | exact Below.refl _ _ | assumption | refine bstep ?_ (by assumption) | refine Below.drew ?_ | refine balloc ?_ _ | refine Below.setCell ?_ (by first | omega | (simp <;> omega)) _))
    rw [V.out]
    simp
  · have f1' : 0 < dot a1 a2 b1 b2 p1 p2 := by omega
    by_cases f2 : sq a1 a2 b1 b2 ≤ dot a1 a2 b1 b2 p1 p2
    ·
      have V := Lib.hid (val.trans (R.2.1 f1' f2).1)
      clear R val
      go_enter Try.func44, Try.ntmps44
      go_wp2_with fail
      refine (minus_c b1 b2 a1 a2 _ hb ha).mono ?_
      rintro e w1 ⟨rfl, hb1⟩
      have hc := (bcell hb1).1
      have kp0 : w1.cell? ⟨w.heap.size, 0, none⟩ = some (.int .i64 p1) := by rw [hc _ _ (by first | omega | (simp <;> omega))]; go_simp
      have kp1 : w1.cell? ⟨w.heap.size, 1, none⟩ = some (.int .i64 p2) := by rw [hc _ _ (by first | omega | (simp <;> omega))]; go_simp
      have ka0 : w1.cell? ⟨w.heap.size + 1, 0, none⟩ = some (.int .i64 a1) := by rw [hc _ _ (by first | omega | (simp <;> omega))]; go_simp
      have ka1 : w1.cell? ⟨w.heap.size + 1, 1, none⟩ = some (.int .i64 a2) := by rw [hc _ _ (by first | omega | (simp <;> omega))]; go_simp
      have kb0 : w1.cell? ⟨w.heap.size + 1 + 1, 0, none⟩ = some (.int .i64 b1) := by rw [hc _ _ (by first | omega | (simp <;> omega))]; go_simp
      have kb1 : w1.cell? ⟨w.heap.size + 1 + 1, 1, none⟩ = some (.int .i64 b2) := by rw [hc _ _ (by first | omega | (simp <;> omega))]; go_simp
      have hb0 : Below w.heap.size w w1 := (by repeat (first | exact Below.refl _ _ | assumption | refine bstep ?_ (by assumption) | refine Below.drew ?_ | refine balloc ?_ _ | refine Below.setCell ?_ (by first | omega | (simp <;> omega)) _))
      clear hc hb1
      (try clear zkp0 zka0 zkb0)
      have zkp0 : w.heap.size < w1.heap.size := World.block_lt_of_cell? _ _ kp0
      have zka0 : w.heap.size + 1 < w1.heap.size := World.block_lt_of_cell? _ _ ka0
      have zkb0 : w.heap.size + 1 + 1 < w1.heap.size := World.block_lt_of_cell? _ _ kb0
      have hbW : Below w1.heap.size w1 w1 := Below.refl _ _
      have hc := (bcell hbW).1
      go_wp2_with fail
      obtain ⟨gv, hgv⟩ : ∃ g, g = w1.heap.size := ⟨_, rfl⟩
      obtain ⟨Wv, hWv⟩ : ∃ W, W = w1.alloc (Obj.cells #[(.int .i64 (b1 - a1)), (.int .i64 (b2 - a2))] 23) := ⟨_, rfl⟩
      replace kp0 : Wv.cell? ⟨w.heap.size, 0, none⟩ = some (.int .i64 p1) := by rw [hWv]; exact cell_al _ (cell_later hbW kp0)
      replace kp1 : Wv.cell? ⟨w.heap.size, 1, none⟩ = some (.int .i64 p2) := by rw [hWv]; exact cell_al _ (cell_later hbW kp1)
      replace ka0 : Wv.cell? ⟨w.heap.size + 1, 0, none⟩ = some (.int .i64 a1) := by rw [hWv]; exact cell_al _ (cell_later hbW ka0)
      replace ka1 : Wv.cell? ⟨w.heap.size + 1, 1, none⟩ = some (.int .i64 a2) := by rw [hWv]; exact cell_al _ (cell_later hbW ka1)
      replace kb0 : Wv.cell? ⟨w.heap.size + 1 + 1, 0, none⟩ = some (.int .i64 b1) := by rw [hWv]; exact cell_al _ (cell_later hbW kb0)
      replace kb1 : Wv.cell? ⟨w.heap.size + 1 + 1, 1, none⟩ = some (.int .i64 b2) := by rw [hWv]; exact cell_al _ (cell_later hbW kb1)
      have kv0 : Wv.cell? ⟨gv, 0, none⟩ = some (.int .i64 (b1 - a1)) := by rw [hWv, hgv]; go_simp
      have kv1 : Wv.cell? ⟨gv, 1, none⟩ = some (.int .i64 (b2 - a2)) := by rw [hWv, hgv]; go_simp
      replace hb0 : Below w.heap.size w Wv := by rw [hWv]; exact balloc (bstep hb0 hbW) _
      rw [← hWv, ← hgv]
      clear hWv hgv hbW hc
      (try clear zkp0 zka0 zkb0 zkv0)
      have zkp0 : w.heap.size < Wv.heap.size := World.block_lt_of_cell? _ _ kp0
      have zka0 : w.heap.size + 1 < Wv.heap.size := World.block_lt_of_cell? _ _ ka0
      have zkb0 : w.heap.size + 1 + 1 < Wv.heap.size := World.block_lt_of_cell? _ _ kb0
      have zkv0 : gv < Wv.heap.size := World.block_lt_of_cell? _ _ kv0
      have hbW : Below Wv.heap.size Wv Wv := Below.refl _ _
      have hc := (bcell hbW).1
      refine (minus_c p1 p2 a1 a2 _ hp ha).mono ?_
      rintro e w2 ⟨rfl, hb2⟩
      replace hbW := bstep hbW hb2
      clear hb2 hc
      have hc := (bcell hbW).1
      have hsz := hbW.size
      have ykp0 : w.heap.size < w2.heap.size := by omega
      have yka0 : w.heap.size + 1 < w2.heap.size := by omega
      have ykb0 : w.heap.size + 1 + 1 < w2.heap.size := by omega
      have ykv0 : gv < w2.heap.size := by omega
      go_wp2_with fail
      clear hsz ykp0 yka0 ykb0 ykv0
      obtain ⟨gw, hgw⟩ : ∃ g, g = w2.heap.size := ⟨_, rfl⟩
      obtain ⟨Ww, hWw⟩ : ∃ W, W = w2.alloc (Obj.cells #[(.int .i64 (p1 - a1)), (.int .i64 (p2 - a2))] 23) := ⟨_, rfl⟩
      replace kp0 : Ww.cell? ⟨w.heap.size, 0, none⟩ = some (.int .i64 p1) := by rw [hWw]; exact cell_al _ (cell_later hbW kp0)
      replace kp1 : Ww.cell? ⟨w.heap.size, 1, none⟩ = some (.int .i64 p2) := by rw [hWw]; exact cell_al _ (cell_later hbW kp1)
      replace ka0 : Ww.cell? ⟨w.heap.size + 1, 0, none⟩ = some (.int .i64 a1) := by rw [hWw]; exact cell_al _ (cell_later hbW ka0)
      replace ka1 : Ww.cell? ⟨w.heap.size + 1, 1, none⟩ = some (.int .i64 a2) := by rw [hWw]; exact cell_al _ (cell_later hbW ka1)
      replace kb0 : Ww.cell? ⟨w.heap.size + 1 + 1, 0, none⟩ = some (.int .i64 b1) := by rw [hWw]; exact cell_al _ (cell_later hbW kb0)
      replace kb1 : Ww.cell? ⟨w.heap.size + 1 + 1, 1, none⟩ = some (.int .i64 b2) := by rw [hWw]; exact cell_al _ (cell_later hbW kb1)
      replace kv0 : Ww.cell? ⟨gv, 0, none⟩ = some (.int .i64 (b1 - a1)) := by rw [hWw]; exact cell_al _ (cell_later hbW kv0)
      replace kv1 : Ww.cell? ⟨gv, 1, none⟩ = some (.int .i64 (b2 - a2)) := by rw [hWw]; exact cell_al _ (cell_later hbW kv1)
      have kw0 : Ww.cell? ⟨gw, 0, none⟩ = some (.int .i64 (p1 - a1)) := by rw [hWw, hgw]; go_simp
      have kw1 : Ww.cell? ⟨gw, 1, none⟩ = some (.int .i64 (p2 - a2)) := by rw [hWw, hgw]; go_simp
      replace hb0 : Below w.heap.size w Ww := by rw [hWw]; exact balloc (bstep hb0 hbW) _
      rw [← hWw, ← hgw]
      clear hWw hgw hbW hc
      (try clear zkp0 zka0 zkb0 zkv0 zkw0)
      have zkp0 : w.heap.size < Ww.heap.size := World.block_lt_of_cell? _ _ kp0
      have zka0 : w.heap.size + 1 < Ww.heap.size := World.block_lt_of_cell? _ _ ka0
      have zkb0 : w.heap.size + 1 + 1 < Ww.heap.size := World.block_lt_of_cell? _ _ kb0
      have zkv0 : gv < Ww.heap.size := World.block_lt_of_cell? _ _ kv0
      have zkw0 : gw < Ww.heap.size := World.block_lt_of_cell? _ _ kw0
      have hbW : Below Ww.heap.size Ww Ww := Below.refl _ _
      have hc := (bcell hbW).1
      refine (rdot_sq a1 a2 b1 b2 _ ha hb).mono ?_
      rintro e w1 ⟨rfl, hb1⟩
      replace hbW := bstep hbW hb1; clear hc; have hc := (bcell hbW).1; clear hb1
      go_wp2_with fail
      refine (rdot_c a1 a2 b1 b2 p1 p2 _ ha hb hp).mono ?_
      rintro e w1 ⟨rfl, hb1⟩
      replace hbW := bstep hbW hb1; clear hc; have hc := (bcell hbW).1; clear hb1
      go_wp2_with fail
      refine (rsq_c p1 p2 b1 b2 _ hp hb).mono ?_
      rintro e w1 ⟨rfl, hb1⟩
      replace hbW := bstep hbW hb1; clear hc; have hc := (bcell hbW).1; clear hb1
      go_wp2
      go_ret
      refine ret_bool ?_ (by repeat (first | exact Below.refl _ _ | assumption | refine bstep ?_ (by assumption) | refine Below.drew ?_ | refine balloc ?_ _ | refine Below.setCell ?_ (by first | omega | (simp <;> omega)) _))
      rw [V.out]
      simp
    · have f2' : dot a1 a2 b1 b2 p1 p2 < sq a1 a2 b1 b2 := by omega
      by_cases f3 : 0 ≤ cross a1 a2 b1 b2 p1 p2
      ·
        have V := Lib.hid (val.trans (R.2.2 f1' f2').1)
        clear R val
        go_enter Try.func44, Try.ntmps44
        go_wp2_with fail
        refine (minus_c b1 b2 a1 a2 _ hb ha).mono ?_
        rintro e w1 ⟨rfl, hb1⟩
        have hc := (bcell hb1).1
        have kp0 : w1.cell? ⟨w.heap.size, 0, none⟩ = some (.int .i64 p1) := by rw [hc _ _ (by first | omega | (simp <;> omega))]; go_simp
        have kp1 : w1.cell? ⟨w.heap.size, 1, none⟩ = some (.int .i64 p2) := by rw [hc _ _ (by first | omega | (simp <;> omega))]; go_simp
        have ka0 : w1.cell? ⟨w.heap.size + 1, 0, none⟩ = some (.int .i64 a1) := by rw [hc _ _ (by first | omega | (simp <;> omega))]; go_simp
        have ka1 : w1.cell? ⟨w.heap.size + 1, 1, none⟩ = some (.int .i64 a2) := by rw [hc _ _ (by first | omega | (simp <;> omega))]; go_simp
        have kb0 : w1.cell? ⟨w.heap.size + 1 + 1, 0, none⟩ = some (.int .i64 b1) := by rw [hc _ _ (by first | omega | (simp <;> omega))]; go_simp
        have kb1 : w1.cell? ⟨w.heap.size + 1 + 1, 1, none⟩ = some (.int .i64 b2) := by rw [hc _ _ (by first | omega | (simp <;> omega))]; go_simp
        have hb0 : Below w.heap.size w w1 := (by repeat (first | exact Below.refl _ _ | assumption | refine bstep ?_ (by assumption) | refine Below.drew ?_ | refine balloc ?_ _ | refine Below.setCell ?_ (by first | omega | (simp <;> omega)) _))
        clear hc hb1
        (try clear zkp0 zka0 zkb0)
        have zkp0 : w.heap.size < w1.heap.size := World.block_lt_of_cell? _ _ kp0
        have zka0 : w.heap.size + 1 < w1.heap.size := World.block_lt_of_cell? _ _ ka0
        have zkb0 : w.heap.size + 1 + 1 < w1.heap.size := World.block_lt_of_cell? _ _ kb0
        have hbW : Below w1.heap.size w1 w1 := Below.refl _ _
        have hc := (bcell hbW).1
        go_wp2_with fail
        obtain ⟨gv, hgv⟩ : ∃ g, g = w1.heap.size := ⟨_, rfl⟩
        obtain ⟨Wv, hWv⟩ : ∃ W, W = w1.alloc (Obj.cells #[(.int .i64 (b1 - a1)), (.int .i64 (b2 - a2))] 23) := ⟨_, rfl⟩
        replace kp0 : Wv.cell? ⟨w.heap.size, 0, none⟩ = some (.int .i64 p1) := by rw [hWv]; exact cell_al _ (cell_later hbW kp0)
        replace kp1 : Wv.cell? ⟨w.heap.size, 1, none⟩ = some (.int .i64 p2) := by rw [hWv]; exact cell_al _ (cell_later hbW kp1)
        replace ka0 : Wv.cell? ⟨w.heap.size + 1, 0, none⟩ = some (.int .i64 a1) := by rw [hWv]; exact cell_al _ (cell_later hbW ka0)
        replace ka1 : Wv.cell? ⟨w.heap.size + 1, 1, none⟩ = some (.int .i64 a2) := by rw [hWv]; exact cell_al _ (cell_later hbW ka1)
        replace kb0 : Wv.cell? ⟨w.heap.size + 1 + 1, 0, none⟩ = some (.int .i64 b1) := by rw [hWv]; exact cell_al _ (cell_later hbW kb0)
        replace kb1 : Wv.cell? ⟨w.heap.size + 1 + 1, 1, none⟩ = some (.int .i64 b2) := by rw [hWv]; exact cell_al _ (cell_later hbW kb1)
        have kv0 : Wv.cell? ⟨gv, 0, none⟩ = some (.int .i64 (b1 - a1)) := by rw [hWv, hgv]; go_simp
        have kv1 : Wv.cell? ⟨gv, 1, none⟩ = some (.int .i64 (b2 - a2)) := by rw [hWv, hgv]; go_simp
        replace hb0 : Below w.heap.size w Wv := by rw [hWv]; exact balloc (bstep hb0 hbW) _
        rw [← hWv, ← hgv]
        clear hWv hgv hbW hc
        (try clear zkp0 zka0 zkb0 zkv0)
        have zkp0 : w.heap.size < Wv.heap.size := World.block_lt_of_cell? _ _ kp0
        have zka0 : w.heap.size + 1 < Wv.heap.size := World.block_lt_of_cell? _ _ ka0
        have zkb0 : w.heap.size + 1 + 1 < Wv.heap.size := World.block_lt_of_cell? _ _ kb0
        have zkv0 : gv < Wv.heap.size := World.block_lt_of_cell? _ _ kv0
        have hbW : Below Wv.heap.size Wv Wv := Below.refl _ _
        have hc := (bcell hbW).1
        refine (minus_c p1 p2 a1 a2 _ hp ha).mono ?_
        rintro e w2 ⟨rfl, hb2⟩
        replace hbW := bstep hbW hb2
        clear hb2 hc
        have hc := (bcell hbW).1
        have hsz := hbW.size
        have ykp0 : w.heap.size < w2.heap.size := by omega
        have yka0 : w.heap.size + 1 < w2.heap.size := by omega
        have ykb0 : w.heap.size + 1 + 1 < w2.heap.size := by omega
        have ykv0 : gv < w2.heap.size := by omega
        go_wp2_with fail
        clear hsz ykp0 yka0 ykb0 ykv0
        obtain ⟨gw, hgw⟩ : ∃ g, g = w2.heap.size := ⟨_, rfl⟩
        obtain ⟨Ww, hWw⟩ : ∃ W, W = w2.alloc (Obj.cells #[(.int .i64 (p1 - a1)), (.int .i64 (p2 - a2))] 23) := ⟨_, rfl⟩
        replace kp0 : Ww.cell? ⟨w.heap.size, 0, none⟩ = some (.int .i64 p1) := by rw [hWw]; exact cell_al _ (cell_later hbW kp0)
        replace kp1 : Ww.cell? ⟨w.heap.size, 1, none⟩ = some (.int .i64 p2) := by rw [hWw]; exact cell_al _ (cell_later hbW kp1)
        replace ka0 : Ww.cell? ⟨w.heap.size + 1, 0, none⟩ = some (.int .i64 a1) := by rw [hWw]; exact cell_al _ (cell_later hbW ka0)
        replace ka1 : Ww.cell? ⟨w.heap.size + 1, 1, none⟩ = some (.int .i64 a2) := by rw [hWw]; exact cell_al _ (cell_later hbW ka1)
        replace kb0 : Ww.cell? ⟨w.heap.size + 1 + 1, 0, none⟩ = some (.int .i64 b1) := by rw [hWw]; exact cell_al _ (cell_later hbW kb0)
        replace kb1 : Ww.cell? ⟨w.heap.size + 1 + 1, 1, none⟩ = some (.int .i64 b2) := by rw [hWw]; exact cell_al _ (cell_later hbW kb1)
        replace kv0 : Ww.cell? ⟨gv, 0, none⟩ = some (.int .i64 (b1 - a1)) := by rw [hWw]; exact cell_al _ (cell_later hbW kv0)
        replace kv1 : Ww.cell? ⟨gv, 1, none⟩ = some (.int .i64 (b2 - a2)) := by rw [hWw]; exact cell_al _ (cell_later hbW kv1)
        have kw0 : Ww.cell? ⟨gw, 0, none⟩ = some (.int .i64 (p1 - a1)) := by rw [hWw, hgw]; go_simp
        have kw1 : Ww.cell? ⟨gw, 1, none⟩ = some (.int .i64 (p2 - a2)) := by rw [hWw, hgw]; go_simp
        replace hb0 : Below w.heap.size w Ww := by rw [hWw]; exact balloc (bstep hb0 hbW) _
        rw [← hWw, ← hgw]
        clear hWw hgw hbW hc
        (try clear zkp0 zka0 zkb0 zkv0 zkw0)
        have zkp0 : w.heap.size < Ww.heap.size := World.block_lt_of_cell? _ _ kp0
        have zka0 : w.heap.size + 1 < Ww.heap.size := World.block_lt_of_cell? _ _ ka0
        have zkb0 : w.heap.size + 1 + 1 < Ww.heap.size := World.block_lt_of_cell? _ _ kb0
        have zkv0 : gv < Ww.heap.size := World.block_lt_of_cell? _ _ kv0
        have zkw0 : gw < Ww.heap.size := World.block_lt_of_cell? _ _ kw0
        have hbW : Below Ww.heap.size Ww Ww := Below.refl _ _
        have hc := (bcell hbW).1
        refine (rdot_sq a1 a2 b1 b2 _ ha hb).mono ?_
        rintro e w1 ⟨rfl, hb1⟩
        replace hbW := bstep hbW hb1; clear hc; have hc := (bcell hbW).1; clear hb1
        go_wp2_with fail
        refine (rdot_c a1 a2 b1 b2 p1 p2 _ ha hb hp).mono ?_
        rintro e w1 ⟨rfl, hb1⟩
        replace hbW := bstep hbW hb1; clear hc; have hc := (bcell hbW).1; clear hb1
        go_wp2_with fail
        refine (rcross_c a1 a2 b1 b2 p1 p2 _ ha hb hp).mono ?_
        rintro e w1 ⟨rfl, hb1⟩
        replace hbW := bstep hbW hb1; clear hc; have hc := (bcell hbW).1; clear hb1
        go_wp2_with fail
        refine (times_c (cross a1 a2 b1 b2 p1 p2) (cross a1 a2 b1 b2 p1 p2) _ (by unfold sm full; omega) (by unfold sm full; omega)).mono ?_
        rintro e w1 ⟨rfl, hb1⟩
        replace hbW := bstep hbW hb1; clear hc; have hc := (bcell hbW).1; clear hb1
        go_wp2_with fail
        refine (times_c (d * d) (sq a1 a2 b1 b2) _ (by unfold sm full; omega) (by unfold sm full; omega)).mono ?_
        rintro e w1 ⟨rfl, hb1⟩
        replace hbW := bstep hbW hb1; clear hc; have hc := (bcell hbW).1; clear hb1
        go_wp2_with fail
        refine (most_c ((cross a1 a2 b1 b2 p1 p2) * (cross a1 a2 b1 b2 p1 p2)) (d * d * sq a1 a2 b1 b2) _).mono ?_
        rintro e w1 ⟨rfl, hb1⟩
        replace hbW := bstep hbW hb1; clear hc; have hc := (bcell hbW).1; clear hb1
        go_wp2
        go_ret
        refine ret_bool ?_ (by repeat (first | exact Below.refl _ _ | assumption | refine bstep ?_ (by assumption) | refine Below.drew ?_ | refine balloc ?_ _ | refine Below.setCell ?_ (by first | omega | (simp <;> omega)) _))
        rw [V.out]
        unfold mostB
        rw [decide_eq_true_eq]
      · have f3' : cross a1 a2 b1 b2 p1 p2 < 0 := by omega
        have V := Lib.hid (val.trans (R.2.2 f1' f2').1)
        clear R val
        go_enter Try.func44, Try.ntmps44
        go_wp2_with fail
        refine (minus_c b1 b2 a1 a2 _ hb ha).mono ?_
        rintro e w1 ⟨rfl, hb1⟩
        have hc := (bcell hb1).1
        have kp0 : w1.cell? ⟨w.heap.size, 0, none⟩ = some (.int .i64 p1) := by rw [hc _ _ (by first | omega | (simp <;> omega))]; go_simp
        have kp1 : w1.cell? ⟨w.heap.size, 1, none⟩ = some (.int .i64 p2) := by rw [hc _ _ (by first | omega | (simp <;> omega))]; go_simp
        have ka0 : w1.cell? ⟨w.heap.size + 1, 0, none⟩ = some (.int .i64 a1) := by rw [hc _ _ (by first | omega | (simp <;> omega))]; go_simp
        have ka1 : w1.cell? ⟨w.heap.size + 1, 1, none⟩ = some (.int .i64 a2) := by rw [hc _ _ (by first | omega | (simp <;> omega))]; go_simp
        have kb0 : w1.cell? ⟨w.heap.size + 1 + 1, 0, none⟩ = some (.int .i64 b1) := by rw [hc _ _ (by first | omega | (simp <;> omega))]; go_simp
        have kb1 : w1.cell? ⟨w.heap.size + 1 + 1, 1, none⟩ = some (.int .i64 b2) := by rw [hc _ _ (by first | omega | (simp <;> omega))]; go_simp
        have hb0 : Below w.heap.size w w1 := (by repeat (first | exact Below.refl _ _ | assumption | refine bstep ?_ (by assumption) | refine Below.drew ?_ | refine balloc ?_ _ | refine Below.setCell ?_ (by first | omega | (simp <;> omega)) _))
        clear hc hb1
        (try clear zkp0 zka0 zkb0)
        have zkp0 : w.heap.size < w1.heap.size := World.block_lt_of_cell? _ _ kp0
        have zka0 : w.heap.size + 1 < w1.heap.size := World.block_lt_of_cell? _ _ ka0
        have zkb0 : w.heap.size + 1 + 1 < w1.heap.size := World.block_lt_of_cell? _ _ kb0
        have hbW : Below w1.heap.size w1 w1 := Below.refl _ _
        have hc := (bcell hbW).1
        go_wp2_with fail
        obtain ⟨gv, hgv⟩ : ∃ g, g = w1.heap.size := ⟨_, rfl⟩
        obtain ⟨Wv, hWv⟩ : ∃ W, W = w1.alloc (Obj.cells #[(.int .i64 (b1 - a1)), (.int .i64 (b2 - a2))] 23) := ⟨_, rfl⟩
        replace kp0 : Wv.cell? ⟨w.heap.size, 0, none⟩ = some (.int .i64 p1) := by rw [hWv]; exact cell_al _ (cell_later hbW kp0)
        replace kp1 : Wv.cell? ⟨w.heap.size, 1, none⟩ = some (.int .i64 p2) := by rw [hWv]; exact cell_al _ (cell_later hbW kp1)
        replace ka0 : Wv.cell? ⟨w.heap.size + 1, 0, none⟩ = some (.int .i64 a1) := by rw [hWv]; exact cell_al _ (cell_later hbW ka0)
        replace ka1 : Wv.cell? ⟨w.heap.size + 1, 1, none⟩ = some (.int .i64 a2) := by rw [hWv]; exact cell_al _ (cell_later hbW ka1)
        replace kb0 : Wv.cell? ⟨w.heap.size + 1 + 1, 0, none⟩ = some (.int .i64 b1) := by rw [hWv]; exact cell_al _ (cell_later hbW kb0)
        replace kb1 : Wv.cell? ⟨w.heap.size + 1 + 1, 1, none⟩ = some (.int .i64 b2) := by rw [hWv]; exact cell_al _ (cell_later hbW kb1)
        have kv0 : Wv.cell? ⟨gv, 0, none⟩ = some (.int .i64 (b1 - a1)) := by rw [hWv, hgv]; go_simp
        have kv1 : Wv.cell? ⟨gv, 1, none⟩ = some (.int .i64 (b2 - a2)) := by rw [hWv, hgv]; go_simp
        replace hb0 : Below w.heap.size w Wv := by rw [hWv]; exact balloc (bstep hb0 hbW) _
        rw [← hWv, ← hgv]
        clear hWv hgv hbW hc
        (try clear zkp0 zka0 zkb0 zkv0)
        have zkp0 : w.heap.size < Wv.heap.size := World.block_lt_of_cell? _ _ kp0
        have zka0 : w.heap.size + 1 < Wv.heap.size := World.block_lt_of_cell? _ _ ka0
        have zkb0 : w.heap.size + 1 + 1 < Wv.heap.size := World.block_lt_of_cell? _ _ kb0
        have zkv0 : gv < Wv.heap.size := World.block_lt_of_cell? _ _ kv0
        have hbW : Below Wv.heap.size Wv Wv := Below.refl _ _
        have hc := (bcell hbW).1
        refine (minus_c p1 p2 a1 a2 _ hp ha).mono ?_
        rintro e w2 ⟨rfl, hb2⟩
        replace hbW := bstep hbW hb2
        clear hb2 hc
        have hc := (bcell hbW).1
        have hsz := hbW.size
        have ykp0 : w.heap.size < w2.heap.size := by omega
        have yka0 : w.heap.size + 1 < w2.heap.size := by omega
        have ykb0 : w.heap.size + 1 + 1 < w2.heap.size := by omega
        have ykv0 : gv < w2.heap.size := by omega
        go_wp2_with fail
        clear hsz ykp0 yka0 ykb0 ykv0
        obtain ⟨gw, hgw⟩ : ∃ g, g = w2.heap.size := ⟨_, rfl⟩
        obtain ⟨Ww, hWw⟩ : ∃ W, W = w2.alloc (Obj.cells #[(.int .i64 (p1 - a1)), (.int .i64 (p2 - a2))] 23) := ⟨_, rfl⟩
        replace kp0 : Ww.cell? ⟨w.heap.size, 0, none⟩ = some (.int .i64 p1) := by rw [hWw]; exact cell_al _ (cell_later hbW kp0)
        replace kp1 : Ww.cell? ⟨w.heap.size, 1, none⟩ = some (.int .i64 p2) := by rw [hWw]; exact cell_al _ (cell_later hbW kp1)
        replace ka0 : Ww.cell? ⟨w.heap.size + 1, 0, none⟩ = some (.int .i64 a1) := by rw [hWw]; exact cell_al _ (cell_later hbW ka0)
        replace ka1 : Ww.cell? ⟨w.heap.size + 1, 1, none⟩ = some (.int .i64 a2) := by rw [hWw]; exact cell_al _ (cell_later hbW ka1)
        replace kb0 : Ww.cell? ⟨w.heap.size + 1 + 1, 0, none⟩ = some (.int .i64 b1) := by rw [hWw]; exact cell_al _ (cell_later hbW kb0)
        replace kb1 : Ww.cell? ⟨w.heap.size + 1 + 1, 1, none⟩ = some (.int .i64 b2) := by rw [hWw]; exact cell_al _ (cell_later hbW kb1)
        replace kv0 : Ww.cell? ⟨gv, 0, none⟩ = some (.int .i64 (b1 - a1)) := by rw [hWw]; exact cell_al _ (cell_later hbW kv0)
        replace kv1 : Ww.cell? ⟨gv, 1, none⟩ = some (.int .i64 (b2 - a2)) := by rw [hWw]; exact cell_al _ (cell_later hbW kv1)
        have kw0 : Ww.cell? ⟨gw, 0, none⟩ = some (.int .i64 (p1 - a1)) := by rw [hWw, hgw]; go_simp
        have kw1 : Ww.cell? ⟨gw, 1, none⟩ = some (.int .i64 (p2 - a2)) := by rw [hWw, hgw]; go_simp
        replace hb0 : Below w.heap.size w Ww := by rw [hWw]; exact balloc (bstep hb0 hbW) _
        rw [← hWw, ← hgw]
        clear hWw hgw hbW hc
        (try clear zkp0 zka0 zkb0 zkv0 zkw0)
        have zkp0 : w.heap.size < Ww.heap.size := World.block_lt_of_cell? _ _ kp0
        have zka0 : w.heap.size + 1 < Ww.heap.size := World.block_lt_of_cell? _ _ ka0
        have zkb0 : w.heap.size + 1 + 1 < Ww.heap.size := World.block_lt_of_cell? _ _ kb0
        have zkv0 : gv < Ww.heap.size := World.block_lt_of_cell? _ _ kv0
        have zkw0 : gw < Ww.heap.size := World.block_lt_of_cell? _ _ kw0
        have hbW : Below Ww.heap.size Ww Ww := Below.refl _ _
        have hc := (bcell hbW).1
        refine (rdot_sq a1 a2 b1 b2 _ ha hb).mono ?_
        rintro e w1 ⟨rfl, hb1⟩
        replace hbW := bstep hbW hb1; clear hc; have hc := (bcell hbW).1; clear hb1
        go_wp2_with fail
        refine (rdot_c a1 a2 b1 b2 p1 p2 _ ha hb hp).mono ?_
        rintro e w1 ⟨rfl, hb1⟩
        replace hbW := bstep hbW hb1; clear hc; have hc := (bcell hbW).1; clear hb1
        go_wp2_with fail
        refine (rcross_c a1 a2 b1 b2 p1 p2 _ ha hb hp).mono ?_
        rintro e w1 ⟨rfl, hb1⟩
        replace hbW := bstep hbW hb1; clear hc; have hc := (bcell hbW).1; clear hb1
        go_wp2_with fail
        refine (times_c (- cross a1 a2 b1 b2 p1 p2) (- cross a1 a2 b1 b2 p1 p2) _ (by unfold sm full; omega) (by unfold sm full; omega)).mono ?_
        rintro e w1 ⟨rfl, hb1⟩
        replace hbW := bstep hbW hb1; clear hc; have hc := (bcell hbW).1; clear hb1
        go_wp2_with fail
        refine (times_c (d * d) (sq a1 a2 b1 b2) _ (by unfold sm full; omega) (by unfold sm full; omega)).mono ?_
        rintro e w1 ⟨rfl, hb1⟩
        replace hbW := bstep hbW hb1; clear hc; have hc := (bcell hbW).1; clear hb1
        go_wp2_with fail
        refine (most_c ((- cross a1 a2 b1 b2 p1 p2) * (- cross a1 a2 b1 b2 p1 p2)) (d * d * sq a1 a2 b1 b2) _).mono ?_
        rintro e w1 ⟨rfl, hb1⟩
        replace hbW := bstep hbW hb1; clear hc; have hc := (bcell hbW).1; clear hb1
        go_wp2
        go_ret
        refine ret_bool ?_ (by repeat (first | exact Below.refl _ _ | assumption | refine bstep ?_ (by assumption) | refine Below.drew ?_ | refine balloc ?_ _ | refine Below.setCell ?_ (by first | omega | (simp <;> omega)) _))
        rw [V.out]
        unfold mostB
        rw [decide_eq_true_eq]
        rw [Int.neg_mul_neg]

end Go.Proofs.Ytakhkeipoldpoaa
