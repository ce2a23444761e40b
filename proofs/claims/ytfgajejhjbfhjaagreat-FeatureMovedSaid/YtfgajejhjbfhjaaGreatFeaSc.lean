/- FeaSc: shifted: discs and lights. -/
import Derived.Test.YtfgajejhjbfhjaaGreatFeaSb
import Derived.Test.YtfgajejhjbfhjaaGreatRows
import Derived.WalkKit
import Derived.WalkSpells
import Derived.WalkLawsBesides
import Derived.Lib.Hide
import Derived.Deep.QuietTactic
import Derived.BigQuiet
import Derived.RegionTactic
import Derived.ChangeAlike
import Derived.BigRegion
import Derived.Deep.RegionHeld3
import Derived.Deep.RegionWith
import Derived.Outline
import Derived.IntWalk
import Derived.Deep.DeepCutAuto
namespace Go.Proofs.YtfgajejhjbfhjaaGreat.Fe
open Go.RowKit
set_option linter.unusedSimpArgs false
set_option linter.unusedVariables false

set_option maxRecDepth 100000 in
set_option maxHeartbeats 12800000 in
theorem shiftD_c (v : Value) (f : Fe) (v1 v2 : Int) (w : World) (hv : FeV w v f) (hk : ¬ (f.ki = 3 ∨ f.ki = 6)) (hxy : ok f.x f.y) (hp : ok v1 v2) : Calls Tryz.prog 31 #[v, (.agg #[.int .i64 v1, .int .i64 v2])] w (ShfPost f v1 v2 w) := by
  obtain ⟨⟨pa, ps, ca, cs, rfl, ha, hs⟩, hx, hy⟩ := hv
  have em := mvF_not v1 v2 hk
  have k3 : (f.ki == 3) = false := by rw [beq_eq_false_iff_ne]; omega
  have k6 : (f.ki == 6) = false := by rw [beq_eq_false_iff_ne]; omega
  unfold ok at hxy hp
  have ww1 : wrap64 (f.x + v1) = f.x + v1 := w64 (by omega)
  have ww2 : wrap64 (f.y + v2) = f.y + v2 := w64 (by omega)
  have HM := Lib.hid (show FeV w (.agg #[(.int .i64 (f.id)), (.int .i64 (f.ki)), (.int .i64 (f.x + v1)), (.int .i64 (f.y + v2)), (.int .i64 (f.ra)), .slice pa f.ar.length ca, (.int .i64 (f.de)), (.int .i64 (f.sy)), .slice ps f.se.length cs]) (mvF v1 v2 f) from by rw [em]; exact ⟨⟨_, _, _, _, rfl, ha, hs⟩, by unfold i64; dsimp only; omega, by unfold i64; dsimp only; omega⟩)
  have CV : ∀ W, FeV W (.agg #[(.int .i64 (f.id)), (.int .i64 (f.ki)), (.int .i64 (f.x + v1)), (.int .i64 (f.y + v2)), (.int .i64 (f.ra)), .slice pa f.ar.length ca, (.int .i64 (f.de)), (.int .i64 (f.sy)), .slice ps f.se.length cs]) (mvF v1 v2 f) → Calls Tryz.prog 12 #[.agg #[(.int .i64 (f.id)), (.int .i64 (f.ki)), (.int .i64 (f.x + v1)), (.int .i64 (f.y + v2)), (.int .i64 (f.ra)), .slice pa f.ar.length ca, (.int .i64 (f.de)), (.int .i64 (f.sy)), .slice ps f.se.length cs]] W (Ret W (.bool (vaF (mvF v1 v2 f)))) := fun W h => Valid_c _ _ W h
  have HE := Lib.hid em
  obtain ⟨r, hr⟩ : ∃ r, vaF (mvF v1 v2 f) = r := ⟨_, rfl⟩
  rw [hr] at CV
  have HR := Lib.hid hr
  clear ha hs hx hy em hk hxy hp hr
  go_enter Tryz.func31, Tryz.ntmps31
  go_wp2_with fail
  go_region_held3 (fun w' => w'.cell? ⟨w.heap.size, 0, none⟩ = some (.int .i64 (f.id)) ∧ w'.cell? ⟨w.heap.size, 1, none⟩ = some (.int .i64 (f.ki)) ∧ w'.cell? ⟨w.heap.size, 2, none⟩ = some (.int .i64 (f.x + v1)) ∧ w'.cell? ⟨w.heap.size, 3, none⟩ = some (.int .i64 (f.y + v2)) ∧ w'.cell? ⟨w.heap.size, 4, none⟩ = some (.int .i64 (f.ra)) ∧ w'.cell? ⟨w.heap.size, 5, none⟩ = some (.slice pa f.ar.length ca) ∧ w'.cell? ⟨w.heap.size, 6, none⟩ = some (.int .i64 (f.de)) ∧ w'.cell? ⟨w.heap.size, 7, none⟩ = some (.int .i64 (f.sy)) ∧ w'.cell? ⟨w.heap.size, 8, none⟩ = some (.slice ps f.se.length cs)) (first | (go_keep; done) | ((repeat' apply And.intro) <;> go_simp)) (first | (go_at_call 12; refine Calls.mono (CV _ (HM.out.below (by repeat (first | with_reducible exact Below.refl _ _ | with_reducible assumption | with_reducible refine Below.setCell ?_ (by first | omega | (simp <;> omega)) _ | with_reducible refine balloc ?_ _ | with_reducible refine Below.drew ?_ | with_reducible refine bstep ?_ (by with_reducible assumption))))) ?_; rintro e w1 ⟨rfl, hb⟩; have kf0 : w1.cell? ⟨w.heap.size, 0, none⟩ = some (.int .i64 (f.id)) := cell_later hb (by first | (with_reducible assumption) | go_simp); have kf1 : w1.cell? ⟨w.heap.size, 1, none⟩ = some (.int .i64 (f.ki)) := cell_later hb (by first | (with_reducible assumption) | go_simp); have kf2 : w1.cell? ⟨w.heap.size, 2, none⟩ = some (.int .i64 (f.x + v1)) := cell_later hb (by first | (with_reducible assumption) | go_simp); have kf3 : w1.cell? ⟨w.heap.size, 3, none⟩ = some (.int .i64 (f.y + v2)) := cell_later hb (by first | (with_reducible assumption) | go_simp); have kf4 : w1.cell? ⟨w.heap.size, 4, none⟩ = some (.int .i64 (f.ra)) := cell_later hb (by first | (with_reducible assumption) | go_simp); have kf5 : w1.cell? ⟨w.heap.size, 5, none⟩ = some (.slice pa f.ar.length ca) := cell_later hb (by first | (with_reducible assumption) | go_simp); have kf6 : w1.cell? ⟨w.heap.size, 6, none⟩ = some (.int .i64 (f.de)) := cell_later hb (by first | (with_reducible assumption) | go_simp); have kf7 : w1.cell? ⟨w.heap.size, 7, none⟩ = some (.int .i64 (f.sy)) := cell_later hb (by first | (with_reducible assumption) | go_simp); have kf8 : w1.cell? ⟨w.heap.size, 8, none⟩ = some (.slice ps f.se.length cs) := cell_later hb (by first | (with_reducible assumption) | go_simp); have zf : w.heap.size < w1.heap.size := World.block_lt_of_cell? _ _ kf0; have kv0 : w1.cell? ⟨w.heap.size + 1, 0, none⟩ = some (.int .i64 v1) := cell_later hb (by first | (with_reducible assumption) | go_simp); have kv1 : w1.cell? ⟨w.heap.size + 1, 1, none⟩ = some (.int .i64 v2) := cell_later hb (by first | (with_reducible assumption) | go_simp); have zv : w.heap.size + 1 < w1.heap.size := World.block_lt_of_cell? _ _ kv0; have kr0 : w1.cell? ⟨w.heap.size + 1 + 1, 0, none⟩ = some (.int .i64 0) := cell_later hb (by first | (with_reducible assumption) | go_simp); have jr0 : w1.frozen? ⟨w.heap.size + 1 + 1, 0, none⟩ = false := (by rw [(bcell hb).2 _ _ (by first | omega | (simp <;> omega))]; first | (with_reducible assumption) | go_simp); have kr1 : w1.cell? ⟨w.heap.size + 1 + 1, 1, none⟩ = some (.int .i64 0) := cell_later hb (by first | (with_reducible assumption) | go_simp); have jr1 : w1.frozen? ⟨w.heap.size + 1 + 1, 1, none⟩ = false := (by rw [(bcell hb).2 _ _ (by first | omega | (simp <;> omega))]; first | (with_reducible assumption) | go_simp); have kr2 : w1.cell? ⟨w.heap.size + 1 + 1, 2, none⟩ = some (.int .i64 0) := cell_later hb (by first | (with_reducible assumption) | go_simp); have jr2 : w1.frozen? ⟨w.heap.size + 1 + 1, 2, none⟩ = false := (by rw [(bcell hb).2 _ _ (by first | omega | (simp <;> omega))]; first | (with_reducible assumption) | go_simp); have kr3 : w1.cell? ⟨w.heap.size + 1 + 1, 3, none⟩ = some (.int .i64 0) := cell_later hb (by first | (with_reducible assumption) | go_simp); have jr3 : w1.frozen? ⟨w.heap.size + 1 + 1, 3, none⟩ = false := (by rw [(bcell hb).2 _ _ (by first | omega | (simp <;> omega))]; first | (with_reducible assumption) | go_simp); have kr4 : w1.cell? ⟨w.heap.size + 1 + 1, 4, none⟩ = some (.int .i64 0) := cell_later hb (by first | (with_reducible assumption) | go_simp); have jr4 : w1.frozen? ⟨w.heap.size + 1 + 1, 4, none⟩ = false := (by rw [(bcell hb).2 _ _ (by first | omega | (simp <;> omega))]; first | (with_reducible assumption) | go_simp); have kr5 : w1.cell? ⟨w.heap.size + 1 + 1, 5, none⟩ = some (.slice none 0 0) := cell_later hb (by first | (with_reducible assumption) | go_simp); have jr5 : w1.frozen? ⟨w.heap.size + 1 + 1, 5, none⟩ = false := (by rw [(bcell hb).2 _ _ (by first | omega | (simp <;> omega))]; first | (with_reducible assumption) | go_simp); have kr6 : w1.cell? ⟨w.heap.size + 1 + 1, 6, none⟩ = some (.int .i64 0) := cell_later hb (by first | (with_reducible assumption) | go_simp); have jr6 : w1.frozen? ⟨w.heap.size + 1 + 1, 6, none⟩ = false := (by rw [(bcell hb).2 _ _ (by first | omega | (simp <;> omega))]; first | (with_reducible assumption) | go_simp); have kr7 : w1.cell? ⟨w.heap.size + 1 + 1, 7, none⟩ = some (.int .i64 0) := cell_later hb (by first | (with_reducible assumption) | go_simp); have jr7 : w1.frozen? ⟨w.heap.size + 1 + 1, 7, none⟩ = false := (by rw [(bcell hb).2 _ _ (by first | omega | (simp <;> omega))]; first | (with_reducible assumption) | go_simp); have kr8 : w1.cell? ⟨w.heap.size + 1 + 1, 8, none⟩ = some (.slice none 0 0) := cell_later hb (by first | (with_reducible assumption) | go_simp); have jr8 : w1.frozen? ⟨w.heap.size + 1 + 1, 8, none⟩ = false := (by rw [(bcell hb).2 _ _ (by first | omega | (simp <;> omega))]; first | (with_reducible assumption) | go_simp); have zr : w.heap.size + 1 + 1 < w1.heap.size := World.block_lt_of_cell? _ _ kr0; have hb0 : Below w.heap.size w w1 := (by repeat (first | with_reducible exact Below.refl _ _ | with_reducible assumption | with_reducible refine Below.setCell ?_ (by first | omega | (simp <;> omega)) _ | with_reducible refine balloc ?_ _ | with_reducible refine Below.drew ?_ | with_reducible refine bstep ?_ (by with_reducible assumption))); clear hb))
  all_goals
    go_wp2
    refine bodyPost_ret (v := .tuple #[.agg #[(.int .i64 (f.id)), (.int .i64 (f.ki)), (.int .i64 (f.x + v1)), (.int .i64 (f.y + v2)), (.int .i64 (f.ra)), .slice pa f.ar.length ca, (.int .i64 (f.de)), (.int .i64 (f.sy)), .slice ps f.se.length cs], .bool r]) ?_ rfl ?_
    · simp [results, Tryz.results31, go_sem, zr, kf0, kr0, kf1, kr1, kf2, kr2, kf3, kr3, kf4, kr4, kf5, kr5, kf6, kr6, kf7, kr7, kf8, kr8]
    · have hbz : Below w.heap.size w ((((((((((w1.setCell ⟨w.heap.size + 1 + 1, 0, none⟩ (.int .i64 (f.id))).setCell ⟨w.heap.size + 1 + 1, 1, none⟩ (.int .i64 (f.ki))).setCell ⟨w.heap.size + 1 + 1, 2, none⟩ (.int .i64 (f.x + v1))).setCell ⟨w.heap.size + 1 + 1, 3, none⟩ (.int .i64 (f.y + v2))).setCell ⟨w.heap.size + 1 + 1, 4, none⟩ (.int .i64 (f.ra))).setCell ⟨w.heap.size + 1 + 1, 5, none⟩ (.slice pa f.ar.length ca)).setCell ⟨w.heap.size + 1 + 1, 6, none⟩ (.int .i64 (f.de))).setCell ⟨w.heap.size + 1 + 1, 7, none⟩ (.int .i64 (f.sy))).setCell ⟨w.heap.size + 1 + 1, 8, none⟩ (.slice ps f.se.length cs))) := (by repeat (first | with_reducible exact Below.refl _ _ | with_reducible assumption | with_reducible refine Below.setCell ?_ (by first | omega | (simp <;> omega)) _ | with_reducible refine balloc ?_ _ | with_reducible refine Below.drew ?_ | with_reducible refine bstep ?_ (by with_reducible assumption)))
      have em := HE.out
      have hm := HM.out.below hbz
      rw [em] at hm
      exact ⟨⟨f.id, f.ki, f.x + v1, f.y + v2, f.ra, f.ar, f.de, f.sy, f.se⟩, r, _, _, _, _, rfl, hm, fun h => ⟨em.symm, by rw [← em, HR.out]; exact h⟩, hbz⟩

end Go.Proofs.YtfgajejhjbfhjaaGreat.Fe
