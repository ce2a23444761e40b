/- SpanA: what package span computes with. -/
import Derived.Test.YtfgajejhjbfhjaaGreatGd
import Derived.Test.YtfgajejhjbfhjaaGreatRows
import Derived.WalkKit
import Derived.WalkSpells
import Derived.WalkLawsBesides
import Derived.Lib.Hide
import Derived.Deep.QuietTactic
import Derived.BigQuiet
import Derived.RegionTactic
import Derived.ChangeAlike
import Derived.BigRegion
import Derived.Deep.RegionHeld3
import Derived.Deep.RegionWith
import Derived.Outline
section
namespace Go.Proofs.YtfgajejhjbfhjaaGreat.Sp
open Go.RowKit
set_option linter.unusedSimpArgs false
set_option linter.unusedVariables false

set_option maxHeartbeats 400000 in
theorem endsWithin_c (s1 s2 m : Int) (w : World) (h0 : 0 ≤ m) (hm : m ≤ 1000000000000) : Calls Tryz.prog 212 #[(.agg #[.int .i64 s1, .int .i64 s2]), (.int .i64 m)] w (Ret w (.bool (vE m s1 s2))) := by
  go_enter Tryz.func212, Tryz.ntmps212
  go_wp2
  all_goals
    go_ret
    refine ret_bool ?_ (by repeat (first | with_reducible exact Below.refl _ _ | with_reducible assumption | with_reducible refine Below.setCell ?_ (by first | omega | (simp <;> omega)) _ | with_reducible refine balloc ?_ _ | with_reducible refine Below.drew ?_ | with_reducible refine bstep ?_ (by with_reducible assumption)))
    rw [vE_iff]
    simp <;> omega

set_option maxHeartbeats 400000 in
theorem validBox_c (b1 b2 b3 b4 : Int) (w : World)  : Calls Tryz.prog 208 #[(.agg #[(.int .i64 b1), (.int .i64 b2), (.int .i64 b3), (.int .i64 b4)])] w (Ret w (.bool (vB b1 b2 b3 b4))) := by
  rcases Bool.eq_false_or_eq_true (vE 1000000 b1 b2) with h1 | h1
  all_goals
    go_enter Tryz.func208, Tryz.ntmps208
    go_wp2_with fail
    refine Calls.mono (endsWithin_c _ _ _ _ (by omega) (by omega)) ?_
    rintro e w1 ⟨rfl, hbW⟩
    have hc := (bcell hbW).1
    have hf := (bcell hbW).2
    go_wp2_with (first | (go_at_call 212; refine Calls.mono (endsWithin_c _ _ _ _ (by omega) (by omega)) ?_; rintro e w1 ⟨rfl, hb1⟩; replace hbW := bstep hbW hb1; clear hc; have hc := (bcell hbW).1; clear hb1; clear hf; have hf := (bcell hbW).2))
    all_goals
      go_ret
      refine ret_bool ?_ (by repeat (first | with_reducible exact Below.refl _ _ | with_reducible assumption | with_reducible refine Below.setCell ?_ (by first | omega | (simp <;> omega)) _ | with_reducible refine balloc ?_ _ | with_reducible refine Below.drew ?_ | with_reducible refine bstep ?_ (by with_reducible assumption)))
      simp [vB, h1]

set_option maxHeartbeats 400000 in
theorem join_c (s1 s2 t1 t2 : Int) (w : World)  : Calls Tryz.prog 209 #[(.agg #[(.int .i64 s1), (.int .i64 s2)]), (.agg #[(.int .i64 t1), (.int .i64 t2)])] w (Ret w (.agg #[(.int .i64 (min s1 t1)), (.int .i64 (max s2 t2))])) := by
  go_enter Tryz.func209, Tryz.ntmps209
  go_wp2
  all_goals
    refine bodyPost_ret ?_ rfl ⟨rfl, (by repeat (first | with_reducible exact Below.refl _ _ | with_reducible assumption | with_reducible refine Below.setCell ?_ (by first | omega | (simp <;> omega)) _ | with_reducible refine balloc ?_ _ | with_reducible refine Below.drew ?_ | with_reducible refine bstep ?_ (by with_reducible assumption)))⟩
    simp [results, Tryz.results209, go_sem] <;> omega

end Go.Proofs.YtfgajejhjbfhjaaGreat.Sp
end

section
namespace Go.Proofs.YtfgajejhjbfhjaaGreat.Sp
open Go.RowKit
set_option linter.unusedSimpArgs false
set_option linter.unusedVariables false

end Go.Proofs.YtfgajejhjbfhjaaGreat.Sp
end

section
namespace Go.Proofs.YtfgajejhjbfhjaaGreat.Sp
open Go.RowKit
set_option linter.unusedSimpArgs false
set_option linter.unusedVariables false

set_option maxHeartbeats 3200000 in
theorem JoinBox_c (a1 a2 a3 a4 b1 b2 b3 b4 : Int) (w : World)  : Calls Tryz.prog 205 #[(.agg #[(.int .i64 a1), (.int .i64 a2), (.int .i64 a3), (.int .i64 a4)]), (.agg #[(.int .i64 b1), (.int .i64 b2), (.int .i64 b3), (.int .i64 b4)])] w (Ret w (.tuple #[.agg #[(.int .i64 (selI (vJoinBox a1 a2 a3 a4 b1 b2 b3 b4) (min a1 b1))), (.int .i64 (selI (vJoinBox a1 a2 a3 a4 b1 b2 b3 b4) (max a2 b2))), (.int .i64 (selI (vJoinBox a1 a2 a3 a4 b1 b2 b3 b4) (min a3 b3))), (.int .i64 (selI (vJoinBox a1 a2 a3 a4 b1 b2 b3 b4) (max a4 b4)))], (.int .i64 (erv (vJoinBox a1 a2 a3 a4 b1 b2 b3 b4) true 4))])) := by
  rcases Bool.eq_false_or_eq_true (vB a1 a2 a3 a4) with h1 | h1
  · rcases Bool.eq_false_or_eq_true (vB b1 b2 b3 b4) with h2 | h2
    ·
      go_enter Tryz.func205, Tryz.ntmps205
      go_wp2_with fail
      refine Calls.mono (validBox_c _ _ _ _ _) ?_
      rintro e w1 ⟨rfl, hb⟩
      have ka0 : w1.cell? ⟨w.heap.size, 0, none⟩ = some (.int .i64 a1) := cell_later hb (by go_simp)
      have ka1 : w1.cell? ⟨w.heap.size, 1, none⟩ = some (.int .i64 a2) := cell_later hb (by go_simp)
      have ka2 : w1.cell? ⟨w.heap.size, 2, none⟩ = some (.int .i64 a3) := cell_later hb (by go_simp)
      have ka3 : w1.cell? ⟨w.heap.size, 3, none⟩ = some (.int .i64 a4) := cell_later hb (by go_simp)
      have kb0 : w1.cell? ⟨w.heap.size + 1, 0, none⟩ = some (.int .i64 b1) := cell_later hb (by go_simp)
      have kb1 : w1.cell? ⟨w.heap.size + 1, 1, none⟩ = some (.int .i64 b2) := cell_later hb (by go_simp)
      have kb2 : w1.cell? ⟨w.heap.size + 1, 2, none⟩ = some (.int .i64 b3) := cell_later hb (by go_simp)
      have kb3 : w1.cell? ⟨w.heap.size + 1, 3, none⟩ = some (.int .i64 b4) := cell_later hb (by go_simp)
      have kr0 : w1.cell? ⟨w.heap.size + 1 + 1, 0, none⟩ = some (.int .i64 0) := cell_later hb (by go_simp)
      have jr0 : w1.frozen? ⟨w.heap.size + 1 + 1, 0, none⟩ = false := by rw [(bcell hb).2 _ _ (by first | omega | (simp <;> omega))]; go_simp
      have kr1 : w1.cell? ⟨w.heap.size + 1 + 1, 1, none⟩ = some (.int .i64 0) := cell_later hb (by go_simp)
      have jr1 : w1.frozen? ⟨w.heap.size + 1 + 1, 1, none⟩ = false := by rw [(bcell hb).2 _ _ (by first | omega | (simp <;> omega))]; go_simp
      have kr2 : w1.cell? ⟨w.heap.size + 1 + 1, 2, none⟩ = some (.int .i64 0) := cell_later hb (by go_simp)
      have jr2 : w1.frozen? ⟨w.heap.size + 1 + 1, 2, none⟩ = false := by rw [(bcell hb).2 _ _ (by first | omega | (simp <;> omega))]; go_simp
      have kr3 : w1.cell? ⟨w.heap.size + 1 + 1, 3, none⟩ = some (.int .i64 0) := cell_later hb (by go_simp)
      have jr3 : w1.frozen? ⟨w.heap.size + 1 + 1, 3, none⟩ = false := by rw [(bcell hb).2 _ _ (by first | omega | (simp <;> omega))]; go_simp
      have za : w.heap.size < w1.heap.size := World.block_lt_of_cell? _ _ ka0
      have zb : w.heap.size + 1 < w1.heap.size := World.block_lt_of_cell? _ _ kb0
      have zr : w.heap.size + 1 + 1 < w1.heap.size := World.block_lt_of_cell? _ _ kr0
      have hb0 : Below w.heap.size w w1 := (by repeat (first | with_reducible exact Below.refl _ _ | with_reducible assumption | with_reducible refine Below.setCell ?_ (by first | omega | (simp <;> omega)) _ | with_reducible refine balloc ?_ _ | with_reducible refine Below.drew ?_ | with_reducible refine bstep ?_ (by with_reducible assumption)))
      clear hb
      go_wp2_with fail
      refine Calls.mono (validBox_c _ _ _ _ _) ?_
      rintro e w2 ⟨rfl, hb⟩
      replace ka0 : w2.cell? ⟨w.heap.size, 0, none⟩ = some (.int .i64 a1) := cell_later hb (by first | (with_reducible exact ka0) | (with_reducible exact cell_al _ ka0) | (with_reducible exact cell_al _ (cell_al _ ka0)) | go_simp)
      replace ka1 : w2.cell? ⟨w.heap.size, 1, none⟩ = some (.int .i64 a2) := cell_later hb (by first | (with_reducible exact ka1) | (with_reducible exact cell_al _ ka1) | (with_reducible exact cell_al _ (cell_al _ ka1)) | go_simp)
      replace ka2 : w2.cell? ⟨w.heap.size, 2, none⟩ = some (.int .i64 a3) := cell_later hb (by first | (with_reducible exact ka2) | (with_reducible exact cell_al _ ka2) | (with_reducible exact cell_al _ (cell_al _ ka2)) | go_simp)
      replace ka3 : w2.cell? ⟨w.heap.size, 3, none⟩ = some (.int .i64 a4) := cell_later hb (by first | (with_reducible exact ka3) | (with_reducible exact cell_al _ ka3) | (with_reducible exact cell_al _ (cell_al _ ka3)) | go_simp)
      replace kb0 : w2.cell? ⟨w.heap.size + 1, 0, none⟩ = some (.int .i64 b1) := cell_later hb (by first | (with_reducible exact kb0) | (with_reducible exact cell_al _ kb0) | (with_reducible exact cell_al _ (cell_al _ kb0)) | go_simp)
      replace kb1 : w2.cell? ⟨w.heap.size + 1, 1, none⟩ = some (.int .i64 b2) := cell_later hb (by first | (with_reducible exact kb1) | (with_reducible exact cell_al _ kb1) | (with_reducible exact cell_al _ (cell_al _ kb1)) | go_simp)
      replace kb2 : w2.cell? ⟨w.heap.size + 1, 2, none⟩ = some (.int .i64 b3) := cell_later hb (by first | (with_reducible exact kb2) | (with_reducible exact cell_al _ kb2) | (with_reducible exact cell_al _ (cell_al _ kb2)) | go_simp)
      replace kb3 : w2.cell? ⟨w.heap.size + 1, 3, none⟩ = some (.int .i64 b4) := cell_later hb (by first | (with_reducible exact kb3) | (with_reducible exact cell_al _ kb3) | (with_reducible exact cell_al _ (cell_al _ kb3)) | go_simp)
      replace kr0 : w2.cell? ⟨w.heap.size + 1 + 1, 0, none⟩ = some (.int .i64 0) := cell_later hb (by first | (with_reducible exact kr0) | (with_reducible exact cell_al _ kr0) | (with_reducible exact cell_al _ (cell_al _ kr0)) | go_simp)
      replace jr0 : w2.frozen? ⟨w.heap.size + 1 + 1, 0, none⟩ = false := by rw [(bcell hb).2 _ _ (by first | omega | (simp <;> omega))]; first | (with_reducible exact jr0) | go_simp
      replace kr1 : w2.cell? ⟨w.heap.size + 1 + 1, 1, none⟩ = some (.int .i64 0) := cell_later hb (by first | (with_reducible exact kr1) | (with_reducible exact cell_al _ kr1) | (with_reducible exact cell_al _ (cell_al _ kr1)) | go_simp)
      replace jr1 : w2.frozen? ⟨w.heap.size + 1 + 1, 1, none⟩ = false := by rw [(bcell hb).2 _ _ (by first | omega | (simp <;> omega))]; first | (with_reducible exact jr1) | go_simp
      replace kr2 : w2.cell? ⟨w.heap.size + 1 + 1, 2, none⟩ = some (.int .i64 0) := cell_later hb (by first | (with_reducible exact kr2) | (with_reducible exact cell_al _ kr2) | (with_reducible exact cell_al _ (cell_al _ kr2)) | go_simp)
      replace jr2 : w2.frozen? ⟨w.heap.size + 1 + 1, 2, none⟩ = false := by rw [(bcell hb).2 _ _ (by first | omega | (simp <;> omega))]; first | (with_reducible exact jr2) | go_simp
      replace kr3 : w2.cell? ⟨w.heap.size + 1 + 1, 3, none⟩ = some (.int .i64 0) := cell_later hb (by first | (with_reducible exact kr3) | (with_reducible exact cell_al _ kr3) | (with_reducible exact cell_al _ (cell_al _ kr3)) | go_simp)
      replace jr3 : w2.frozen? ⟨w.heap.size + 1 + 1, 3, none⟩ = false := by rw [(bcell hb).2 _ _ (by first | omega | (simp <;> omega))]; first | (with_reducible exact jr3) | go_simp
      replace za : w.heap.size < w2.heap.size := World.block_lt_of_cell? _ _ ka0
      replace zb : w.heap.size + 1 < w2.heap.size := World.block_lt_of_cell? _ _ kb0
      replace zr : w.heap.size + 1 + 1 < w2.heap.size := World.block_lt_of_cell? _ _ kr0
      replace hb0 : Below w.heap.size w w2 := (by repeat (first | with_reducible exact Below.refl _ _ | with_reducible assumption | with_reducible refine Below.setCell ?_ (by first | omega | (simp <;> omega)) _ | with_reducible refine balloc ?_ _ | with_reducible refine Below.drew ?_ | with_reducible refine bstep ?_ (by with_reducible assumption)))
      clear hb
      go_wp2_with fail
      go_region_held3 (fun w' => w'.cell? ⟨w.heap.size, 0, none⟩ = some (.int .i64 a1) ∧ w'.cell? ⟨w.heap.size, 1, none⟩ = some (.int .i64 a2) ∧ w'.cell? ⟨w.heap.size, 2, none⟩ = some (.int .i64 a3) ∧ w'.cell? ⟨w.heap.size, 3, none⟩ = some (.int .i64 a4) ∧ w'.cell? ⟨w.heap.size + 1, 0, none⟩ = some (.int .i64 b1) ∧ w'.cell? ⟨w.heap.size + 1, 1, none⟩ = some (.int .i64 b2) ∧ w'.cell? ⟨w.heap.size + 1, 2, none⟩ = some (.int .i64 b3) ∧ w'.cell? ⟨w.heap.size + 1, 3, none⟩ = some (.int .i64 b4)) (first | (go_keep; done) | ((repeat' apply And.intro) <;> go_simp)) (first | (go_at_call 209; refine Calls.mono (join_c _ _ _ _ _) ?_; rintro e wr ⟨rfl, hb⟩; have ka0 : wr.cell? ⟨w.heap.size, 0, none⟩ = some (.int .i64 a1) := cell_later hb (by first | (with_reducible assumption) | go_simp); have ka1 : wr.cell? ⟨w.heap.size, 1, none⟩ = some (.int .i64 a2) := cell_later hb (by first | (with_reducible assumption) | go_simp); have ka2 : wr.cell? ⟨w.heap.size, 2, none⟩ = some (.int .i64 a3) := cell_later hb (by first | (with_reducible assumption) | go_simp); have ka3 : wr.cell? ⟨w.heap.size, 3, none⟩ = some (.int .i64 a4) := cell_later hb (by first | (with_reducible assumption) | go_simp); have za : w.heap.size < wr.heap.size := World.block_lt_of_cell? _ _ ka0; have kb0 : wr.cell? ⟨w.heap.size + 1, 0, none⟩ = some (.int .i64 b1) := cell_later hb (by first | (with_reducible assumption) | go_simp); have kb1 : wr.cell? ⟨w.heap.size + 1, 1, none⟩ = some (.int .i64 b2) := cell_later hb (by first | (with_reducible assumption) | go_simp); have kb2 : wr.cell? ⟨w.heap.size + 1, 2, none⟩ = some (.int .i64 b3) := cell_later hb (by first | (with_reducible assumption) | go_simp); have kb3 : wr.cell? ⟨w.heap.size + 1, 3, none⟩ = some (.int .i64 b4) := cell_later hb (by first | (with_reducible assumption) | go_simp); have zb : w.heap.size + 1 < wr.heap.size := World.block_lt_of_cell? _ _ kb0; have kr0 : wr.cell? ⟨w.heap.size + 1 + 1, 0, none⟩ = some (.int .i64 0) := cell_later hb (by first | (with_reducible assumption) | go_simp); have jr0 : wr.frozen? ⟨w.heap.size + 1 + 1, 0, none⟩ = false := (by rw [(bcell hb).2 _ _ (by first | omega | (simp <;> omega))]; first | (with_reducible assumption) | go_simp); have kr1 : wr.cell? ⟨w.heap.size + 1 + 1, 1, none⟩ = some (.int .i64 0) := cell_later hb (by first | (with_reducible assumption) | go_simp); have jr1 : wr.frozen? ⟨w.heap.size + 1 + 1, 1, none⟩ = false := (by rw [(bcell hb).2 _ _ (by first | omega | (simp <;> omega))]; first | (with_reducible assumption) | go_simp); have kr2 : wr.cell? ⟨w.heap.size + 1 + 1, 2, none⟩ = some (.int .i64 0) := cell_later hb (by first | (with_reducible assumption) | go_simp); have jr2 : wr.frozen? ⟨w.heap.size + 1 + 1, 2, none⟩ = false := (by rw [(bcell hb).2 _ _ (by first | omega | (simp <;> omega))]; first | (with_reducible assumption) | go_simp); have kr3 : wr.cell? ⟨w.heap.size + 1 + 1, 3, none⟩ = some (.int .i64 0) := cell_later hb (by first | (with_reducible assumption) | go_simp); have jr3 : wr.frozen? ⟨w.heap.size + 1 + 1, 3, none⟩ = false := (by rw [(bcell hb).2 _ _ (by first | omega | (simp <;> omega))]; first | (with_reducible assumption) | go_simp); have zr : w.heap.size + 1 + 1 < wr.heap.size := World.block_lt_of_cell? _ _ kr0; have hb0 : Below w.heap.size w wr := (by repeat (first | with_reducible exact Below.refl _ _ | with_reducible assumption | with_reducible refine Below.setCell ?_ (by first | omega | (simp <;> omega)) _ | with_reducible refine balloc ?_ _ | with_reducible refine Below.drew ?_ | with_reducible refine bstep ?_ (by with_reducible assumption))); clear hb))
      go_wp2
      refine bodyPost_ret ?_ rfl ⟨rfl, (by repeat (first | with_reducible exact Below.refl _ _ | with_reducible assumption | with_reducible refine Below.setCell ?_ (by first | omega | (simp <;> omega)) _ | with_reducible refine balloc ?_ _ | with_reducible refine Below.drew ?_ | with_reducible refine bstep ?_ (by with_reducible assumption)))⟩
      simp [results, Tryz.results205, go_sem, vJoinBox, selI, erv, h1, h2, kr0, kr1, kr2, kr3]
    ·
      go_enter Tryz.func205, Tryz.ntmps205
      go_wp2_with fail
      refine Calls.mono (validBox_c _ _ _ _ _) ?_
      rintro e w1 ⟨rfl, hb⟩
      have ka0 : w1.cell? ⟨w.heap.size, 0, none⟩ = some (.int .i64 a1) := cell_later hb (by go_simp)
      have ka1 : w1.cell? ⟨w.heap.size, 1, none⟩ = some (.int .i64 a2) := cell_later hb (by go_simp)
      have ka2 : w1.cell? ⟨w.heap.size, 2, none⟩ = some (.int .i64 a3) := cell_later hb (by go_simp)
      have ka3 : w1.cell? ⟨w.heap.size, 3, none⟩ = some (.int .i64 a4) := cell_later hb (by go_simp)
      have kb0 : w1.cell? ⟨w.heap.size + 1, 0, none⟩ = some (.int .i64 b1) := cell_later hb (by go_simp)
      have kb1 : w1.cell? ⟨w.heap.size + 1, 1, none⟩ = some (.int .i64 b2) := cell_later hb (by go_simp)
      have kb2 : w1.cell? ⟨w.heap.size + 1, 2, none⟩ = some (.int .i64 b3) := cell_later hb (by go_simp)
      have kb3 : w1.cell? ⟨w.heap.size + 1, 3, none⟩ = some (.int .i64 b4) := cell_later hb (by go_simp)
      have kr0 : w1.cell? ⟨w.heap.size + 1 + 1, 0, none⟩ = some (.int .i64 0) := cell_later hb (by go_simp)
      have jr0 : w1.frozen? ⟨w.heap.size + 1 + 1, 0, none⟩ = false := by rw [(bcell hb).2 _ _ (by first | omega | (simp <;> omega))]; go_simp
      have kr1 : w1.cell? ⟨w.heap.size + 1 + 1, 1, none⟩ = some (.int .i64 0) := cell_later hb (by go_simp)
      have jr1 : w1.frozen? ⟨w.heap.size + 1 + 1, 1, none⟩ = false := by rw [(bcell hb).2 _ _ (by first | omega | (simp <;> omega))]; go_simp
      have kr2 : w1.cell? ⟨w.heap.size + 1 + 1, 2, none⟩ = some (.int .i64 0) := cell_later hb (by go_simp)
      have jr2 : w1.frozen? ⟨w.heap.size + 1 + 1, 2, none⟩ = false := by rw [(bcell hb).2 _ _ (by first | omega | (simp <;> omega))]; go_simp
      have kr3 : w1.cell? ⟨w.heap.size + 1 + 1, 3, none⟩ = some (.int .i64 0) := cell_later hb (by go_simp)
      have jr3 : w1.frozen? ⟨w.heap.size + 1 + 1, 3, none⟩ = false := by rw [(bcell hb).2 _ _ (by first | omega | (simp <;> omega))]; go_simp
      have za : w.heap.size < w1.heap.size := World.block_lt_of_cell? _ _ ka0
      have zb : w.heap.size + 1 < w1.heap.size := World.block_lt_of_cell? _ _ kb0
      have zr : w.heap.size + 1 + 1 < w1.heap.size := World.block_lt_of_cell? _ _ kr0
      have hb0 : Below w.heap.size w w1 := (by repeat (first | with_reducible exact Below.refl _ _ | with_reducible assumption | with_reducible refine Below.setCell ?_ (by first | omega | (simp <;> omega)) _ | with_reducible refine balloc ?_ _ | with_reducible refine Below.drew ?_ | with_reducible refine bstep ?_ (by with_reducible assumption)))
      clear hb
      go_wp2_with fail
      refine Calls.mono (validBox_c _ _ _ _ _) ?_
      rintro e w2 ⟨rfl, hb⟩
      replace ka0 : w2.cell? ⟨w.heap.size, 0, none⟩ = some (.int .i64 a1) := cell_later hb (by first | (with_reducible exact ka0) | (with_reducible exact cell_al _ ka0) | (with_reducible exact cell_al _ (cell_al _ ka0)) | go_simp)
      replace ka1 : w2.cell? ⟨w.heap.size, 1, none⟩ = some (.int .i64 a2) := cell_later hb (by first | (with_reducible exact ka1) | (with_reducible exact cell_al _ ka1) | (with_reducible exact cell_al _ (cell_al _ ka1)) | go_simp)
      replace ka2 : w2.cell? ⟨w.heap.size, 2, none⟩ = some (.int .i64 a3) := cell_later hb (by first | (with_reducible exact ka2) | (with_reducible exact cell_al _ ka2) | (with_reducible exact cell_al _ (cell_al _ ka2)) | go_simp)
      replace ka3 : w2.cell? ⟨w.heap.size, 3, none⟩ = some (.int .i64 a4) := cell_later hb (by first | (with_reducible exact ka3) | (with_reducible exact cell_al _ ka3) | (with_reducible exact cell_al _ (cell_al _ ka3)) | go_simp)
      replace kb0 : w2.cell? ⟨w.heap.size + 1, 0, none⟩ = some (.int .i64 b1) := cell_later hb (by first | (with_reducible exact kb0) | (with_reducible exact cell_al _ kb0) | (with_reducible exact cell_al _ (cell_al _ kb0)) | go_simp)
      replace kb1 : w2.cell? ⟨w.heap.size + 1, 1, none⟩ = some (.int .i64 b2) := cell_later hb (by first | (with_reducible exact kb1) | (with_reducible exact cell_al _ kb1) | (with_reducible exact cell_al _ (cell_al _ kb1)) | go_simp)
      replace kb2 : w2.cell? ⟨w.heap.size + 1, 2, none⟩ = some (.int .i64 b3) := cell_later hb (by first | (with_reducible exact kb2) | (with_reducible exact cell_al _ kb2) | (with_reducible exact cell_al _ (cell_al _ kb2)) | go_simp)
      replace kb3 : w2.cell? ⟨w.heap.size + 1, 3, none⟩ = some (.int .i64 b4) := cell_later hb (by first | (with_reducible exact kb3) | (with_reducible exact cell_al _ kb3) | (with_reducible exact cell_al _ (cell_al _ kb3)) | go_simp)
      replace kr0 : w2.cell? ⟨w.heap.size + 1 + 1, 0, none⟩ = some (.int .i64 0) := cell_later hb (by first | (with_reducible exact kr0) | (with_reducible exact cell_al _ kr0) | (with_reducible exact cell_al _ (cell_al _ kr0)) | go_simp)
      replace jr0 : w2.frozen? ⟨w.heap.size + 1 + 1, 0, none⟩ = false := by rw [(bcell hb).2 _ _ (by first | omega | (simp <;> omega))]; first | (with_reducible exact jr0) | go_simp
      replace kr1 : w2.cell? ⟨w.heap.size + 1 + 1, 1, none⟩ = some (.int .i64 0) := cell_later hb (by first | (with_reducible exact kr1) | (with_reducible exact cell_al _ kr1) | (with_reducible exact cell_al _ (cell_al _ kr1)) | go_simp)
      replace jr1 : w2.frozen? ⟨w.heap.size + 1 + 1, 1, none⟩ = false := by rw [(bcell hb).2 _ _ (by first | omega | (simp <;> omega))]; first | (with_reducible exact jr1) | go_simp
      replace kr2 : w2.cell? ⟨w.heap.size + 1 + 1, 2, none⟩ = some (.int .i64 0) := cell_later hb (by first | (with_reducible exact kr2) | (with_reducible exact cell_al _ kr2) | (with_reducible exact cell_al _ (cell_al _ kr2)) | go_simp)
      replace jr2 : w2.frozen? ⟨w.heap.size + 1 + 1, 2, none⟩ = false := by rw [(bcell hb).2 _ _ (by first | omega | (simp <;> omega))]; first | (with_reducible exact jr2) | go_simp
      replace kr3 : w2.cell? ⟨w.heap.size + 1 + 1, 3, none⟩ = some (.int .i64 0) := cell_later hb (by first | (with_reducible exact kr3) | (with_reducible exact cell_al _ kr3) | (with_reducible exact cell_al _ (cell_al _ kr3)) | go_simp)
      replace jr3 : w2.frozen? ⟨w.heap.size + 1 + 1, 3, none⟩ = false := by rw [(bcell hb).2 _ _ (by first | omega | (simp <;> omega))]; first | (with_reducible exact jr3) | go_simp
      replace za : w.heap.size < w2.heap.size := World.block_lt_of_cell? _ _ ka0
      replace zb : w.heap.size + 1 < w2.heap.size := World.block_lt_of_cell? _ _ kb0
      replace zr : w.heap.size + 1 + 1 < w2.heap.size := World.block_lt_of_cell? _ _ kr0
      replace hb0 : Below w.heap.size w w2 := (by repeat (first | with_reducible exact Below.refl _ _ | with_reducible assumption | with_reducible refine Below.setCell ?_ (by first | omega | (simp <;> omega)) _ | with_reducible refine balloc ?_ _ | with_reducible refine Below.drew ?_ | with_reducible refine bstep ?_ (by with_reducible assumption)))
      clear hb
      rw [h2]
      go_wp2
      refine bodyPost_ret ?_ rfl ⟨rfl, (by repeat (first | with_reducible exact Below.refl _ _ | with_reducible assumption | with_reducible refine Below.setCell ?_ (by first | omega | (simp <;> omega)) _ | with_reducible refine balloc ?_ _ | with_reducible refine Below.drew ?_ | with_reducible refine bstep ?_ (by with_reducible assumption)))⟩
      simp [results, Tryz.results205, go_sem, vJoinBox, selI, erv, h1, h2, kr0, kr1, kr2, kr3]
  ·
    go_enter Tryz.func205, Tryz.ntmps205
    go_wp2_with fail
    refine Calls.mono (validBox_c _ _ _ _ _) ?_
    rintro e w1 ⟨rfl, hb⟩
    have ka0 : w1.cell? ⟨w.heap.size, 0, none⟩ = some (.int .i64 a1) := cell_later hb (by go_simp)
    have ka1 : w1.cell? ⟨w.heap.size, 1, none⟩ = some (.int .i64 a2) := cell_later hb (by go_simp)
    have ka2 : w1.cell? ⟨w.heap.size, 2, none⟩ = some (.int .i64 a3) := cell_later hb (by go_simp)
    have ka3 : w1.cell? ⟨w.heap.size, 3, none⟩ = some (.int .i64 a4) := cell_later hb (by go_simp)
    have kb0 : w1.cell? ⟨w.heap.size + 1, 0, none⟩ = some (.int .i64 b1) := cell_later hb (by go_simp)
    have kb1 : w1.cell? ⟨w.heap.size + 1, 1, none⟩ = some (.int .i64 b2) := cell_later hb (by go_simp)
    have kb2 : w1.cell? ⟨w.heap.size + 1, 2, none⟩ = some (.int .i64 b3) := cell_later hb (by go_simp)
    have kb3 : w1.cell? ⟨w.heap.size + 1, 3, none⟩ = some (.int .i64 b4) := cell_later hb (by go_simp)
    have kr0 : w1.cell? ⟨w.heap.size + 1 + 1, 0, none⟩ = some (.int .i64 0) := cell_later hb (by go_simp)
    have jr0 : w1.frozen? ⟨w.heap.size + 1 + 1, 0, none⟩ = false := by rw [(bcell hb).2 _ _ (by first | omega | (simp <;> omega))]; go_simp
    have kr1 : w1.cell? ⟨w.heap.size + 1 + 1, 1, none⟩ = some (.int .i64 0) := cell_later hb (by go_simp)
    have jr1 : w1.frozen? ⟨w.heap.size + 1 + 1, 1, none⟩ = false := by rw [(bcell hb).2 _ _ (by first | omega | (simp <;> omega))]; go_simp
    have kr2 : w1.cell? ⟨w.heap.size + 1 + 1, 2, none⟩ = some (.int .i64 0) := cell_later hb (by go_simp)
    have jr2 : w1.frozen? ⟨w.heap.size + 1 + 1, 2, none⟩ = false := by rw [(bcell hb).2 _ _ (by first | omega | (simp <;> omega))]; go_simp
    have kr3 : w1.cell? ⟨w.heap.size + 1 + 1, 3, none⟩ = some (.int .i64 0) := cell_later hb (by go_simp)
    have jr3 : w1.frozen? ⟨w.heap.size + 1 + 1, 3, none⟩ = false := by rw [(bcell hb).2 _ _ (by first | omega | (simp <;> omega))]; go_simp
    have za : w.heap.size < w1.heap.size := World.block_lt_of_cell? _ _ ka0
    have zb : w.heap.size + 1 < w1.heap.size := World.block_lt_of_cell? _ _ kb0
    have zr : w.heap.size + 1 + 1 < w1.heap.size := World.block_lt_of_cell? _ _ kr0
    have hb0 : Below w.heap.size w w1 := (by repeat (first | with_reducible exact Below.refl _ _ | with_reducible assumption | with_reducible refine Below.setCell ?_ (by first | omega | (simp <;> omega)) _ | with_reducible refine balloc ?_ _ | with_reducible refine Below.drew ?_ | with_reducible refine bstep ?_ (by with_reducible assumption)))
    clear hb
    rw [h1]
    go_wp2
    refine bodyPost_ret ?_ rfl ⟨rfl, (by repeat (first | with_reducible exact Below.refl _ _ | with_reducible assumption | with_reducible refine Below.setCell ?_ (by first | omega | (simp <;> omega)) _ | with_reducible refine balloc ?_ _ | with_reducible refine Below.drew ?_ | with_reducible refine bstep ?_ (by with_reducible assumption)))⟩
    simp [results, Tryz.results205, go_sem, vJoinBox, selI, erv, h1, kr0, kr1, kr2, kr3]


end Go.Proofs.YtfgajejhjbfhjaaGreat.Sp
end
