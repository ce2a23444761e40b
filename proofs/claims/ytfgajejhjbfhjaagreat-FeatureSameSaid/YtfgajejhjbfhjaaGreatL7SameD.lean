/- L7SameD: FeatureSame, the third one differs. -/
import Derived.Test.YtfgajejhjbfhjaaGreatFeaYs
import Derived.Test.YtfgajejhjbfhjaaGreatRows
import Derived.WalkKit
import Derived.WalkSpells
import Derived.WalkLawsBesides
import Derived.Lib.Hide
import Derived.Deep.QuietTactic
import Derived.BigQuiet
import Derived.RegionTactic
import Derived.ChangeAlike
import Derived.BigRegion
import Derived.Deep.RegionHeld3
import Derived.Deep.RegionWith
import Derived.Outline
import Derived.IntWalk
import Derived.Deep.DeepCutAuto
namespace Go.Proofs.YtfgajejhjbfhjaaGreat.Fe
open Go.RowKit
set_option linter.unusedSimpArgs false
set_option linter.unusedVariables false

set_option maxRecDepth 100000 in
set_option maxHeartbeats 12800000 in
theorem same_tft (v u x : Value) (f h : Fe) (n : Int) (w : World) (hv : FeV w v f) (hu : FeV w u f) (hx : FeV w x h) (hgh : saF f h = false) (hva : vaF f = true) : Calls Tryz.prog 10 #[v, u, x, (.int .i64 n)] w (Ret w (.bool true)) := by
  obtain ⟨⟨pa1, ps1, ca1, cs1, rfl, ha1, hs1⟩, hx1, hy1⟩ := hv
  have HF := Lib.hid (show FeV w (.agg #[(.int .i64 (f.id)), (.int .i64 (f.ki)), (.int .i64 (f.x)), (.int .i64 (f.y)), (.int .i64 (f.ra)), .slice pa1 f.ar.length ca1, (.int .i64 (f.de)), (.int .i64 (f.sy)), .slice ps1 f.se.length cs1]) f from ⟨⟨_, _, _, _, rfl, ha1, hs1⟩, hx1, hy1⟩)
  clear ha1 hs1
  obtain ⟨⟨pa2, ps2, ca2, cs2, rfl, ha2, hs2⟩, hx2, hy2⟩ := hu
  have HG := Lib.hid (show FeV w (.agg #[(.int .i64 (f.id)), (.int .i64 (f.ki)), (.int .i64 (f.x)), (.int .i64 (f.y)), (.int .i64 (f.ra)), .slice pa2 f.ar.length ca2, (.int .i64 (f.de)), (.int .i64 (f.sy)), .slice ps2 f.se.length cs2]) f from ⟨⟨_, _, _, _, rfl, ha2, hs2⟩, hx2, hy2⟩)
  clear ha2 hs2 hx2 hy2
  obtain ⟨⟨pa3, ps3, ca3, cs3, rfl, ha3, hs3⟩, hx3, hy3⟩ := hx
  have HH := Lib.hid (show FeV w (.agg #[(.int .i64 (h.id)), (.int .i64 (h.ki)), (.int .i64 (h.x)), (.int .i64 (h.y)), (.int .i64 (h.ra)), .slice pa3 h.ar.length ca3, (.int .i64 (h.de)), (.int .i64 (h.sy)), .slice ps3 h.se.length cs3]) h from ⟨⟨_, _, _, _, rfl, ha3, hs3⟩, hx3, hy3⟩)
  clear ha3 hs3 hx3 hy3
  have C11 : ∀ W, FeV W (.agg #[(.int .i64 (f.id)), (.int .i64 (f.ki)), (.int .i64 (f.x)), (.int .i64 (f.y)), (.int .i64 (f.ra)), .slice pa1 f.ar.length ca1, (.int .i64 (f.de)), (.int .i64 (f.sy)), .slice ps1 f.se.length cs1]) f → FeV W (.agg #[(.int .i64 (f.id)), (.int .i64 (f.ki)), (.int .i64 (f.x)), (.int .i64 (f.y)), (.int .i64 (f.ra)), .slice pa1 f.ar.length ca1, (.int .i64 (f.de)), (.int .i64 (f.sy)), .slice ps1 f.se.length cs1]) f → Calls Tryz.prog 16 #[.agg #[(.int .i64 (f.id)), (.int .i64 (f.ki)), (.int .i64 (f.x)), (.int .i64 (f.y)), (.int .i64 (f.ra)), .slice pa1 f.ar.length ca1, (.int .i64 (f.de)), (.int .i64 (f.sy)), .slice ps1 f.se.length cs1], .agg #[(.int .i64 (f.id)), (.int .i64 (f.ki)), (.int .i64 (f.x)), (.int .i64 (f.y)), (.int .i64 (f.ra)), .slice pa1 f.ar.length ca1, (.int .i64 (f.de)), (.int .i64 (f.sy)), .slice ps1 f.se.length cs1]] W (Ret W (.bool true)) := fun W h1 h2 => by have h := Same_c _ _ _ _ W h1 h2; rw [sa_self] at h; exact h
  have C12 : ∀ W, FeV W (.agg #[(.int .i64 (f.id)), (.int .i64 (f.ki)), (.int .i64 (f.x)), (.int .i64 (f.y)), (.int .i64 (f.ra)), .slice pa1 f.ar.length ca1, (.int .i64 (f.de)), (.int .i64 (f.sy)), .slice ps1 f.se.length cs1]) f → FeV W (.agg #[(.int .i64 (f.id)), (.int .i64 (f.ki)), (.int .i64 (f.x)), (.int .i64 (f.y)), (.int .i64 (f.ra)), .slice pa2 f.ar.length ca2, (.int .i64 (f.de)), (.int .i64 (f.sy)), .slice ps2 f.se.length cs2]) f → Calls Tryz.prog 16 #[.agg #[(.int .i64 (f.id)), (.int .i64 (f.ki)), (.int .i64 (f.x)), (.int .i64 (f.y)), (.int .i64 (f.ra)), .slice pa1 f.ar.length ca1, (.int .i64 (f.de)), (.int .i64 (f.sy)), .slice ps1 f.se.length cs1], .agg #[(.int .i64 (f.id)), (.int .i64 (f.ki)), (.int .i64 (f.x)), (.int .i64 (f.y)), (.int .i64 (f.ra)), .slice pa2 f.ar.length ca2, (.int .i64 (f.de)), (.int .i64 (f.sy)), .slice ps2 f.se.length cs2]] W (Ret W (.bool true)) := fun W h1 h2 => by have h := Same_c _ _ _ _ W h1 h2; rw [sa_self] at h; exact h
  have C21 : ∀ W, FeV W (.agg #[(.int .i64 (f.id)), (.int .i64 (f.ki)), (.int .i64 (f.x)), (.int .i64 (f.y)), (.int .i64 (f.ra)), .slice pa2 f.ar.length ca2, (.int .i64 (f.de)), (.int .i64 (f.sy)), .slice ps2 f.se.length cs2]) f → FeV W (.agg #[(.int .i64 (f.id)), (.int .i64 (f.ki)), (.int .i64 (f.x)), (.int .i64 (f.y)), (.int .i64 (f.ra)), .slice pa1 f.ar.length ca1, (.int .i64 (f.de)), (.int .i64 (f.sy)), .slice ps1 f.se.length cs1]) f → Calls Tryz.prog 16 #[.agg #[(.int .i64 (f.id)), (.int .i64 (f.ki)), (.int .i64 (f.x)), (.int .i64 (f.y)), (.int .i64 (f.ra)), .slice pa2 f.ar.length ca2, (.int .i64 (f.de)), (.int .i64 (f.sy)), .slice ps2 f.se.length cs2], .agg #[(.int .i64 (f.id)), (.int .i64 (f.ki)), (.int .i64 (f.x)), (.int .i64 (f.y)), (.int .i64 (f.ra)), .slice pa1 f.ar.length ca1, (.int .i64 (f.de)), (.int .i64 (f.sy)), .slice ps1 f.se.length cs1]] W (Ret W (.bool true)) := fun W h1 h2 => by have h := Same_c _ _ _ _ W h1 h2; rw [sa_self] at h; exact h
  have C23 : ∀ W, FeV W (.agg #[(.int .i64 (f.id)), (.int .i64 (f.ki)), (.int .i64 (f.x)), (.int .i64 (f.y)), (.int .i64 (f.ra)), .slice pa2 f.ar.length ca2, (.int .i64 (f.de)), (.int .i64 (f.sy)), .slice ps2 f.se.length cs2]) f → FeV W (.agg #[(.int .i64 (h.id)), (.int .i64 (h.ki)), (.int .i64 (h.x)), (.int .i64 (h.y)), (.int .i64 (h.ra)), .slice pa3 h.ar.length ca3, (.int .i64 (h.de)), (.int .i64 (h.sy)), .slice ps3 h.se.length cs3]) h → Calls Tryz.prog 16 #[.agg #[(.int .i64 (f.id)), (.int .i64 (f.ki)), (.int .i64 (f.x)), (.int .i64 (f.y)), (.int .i64 (f.ra)), .slice pa2 f.ar.length ca2, (.int .i64 (f.de)), (.int .i64 (f.sy)), .slice ps2 f.se.length cs2], .agg #[(.int .i64 (h.id)), (.int .i64 (h.ki)), (.int .i64 (h.x)), (.int .i64 (h.y)), (.int .i64 (h.ra)), .slice pa3 h.ar.length ca3, (.int .i64 (h.de)), (.int .i64 (h.sy)), .slice ps3 h.se.length cs3]] W (Ret W (.bool false)) := fun W h1 h2 => by have h := Same_c _ _ _ _ W h1 h2; rw [hgh] at h; exact h
  have HO1 := Lib.hid (show FeV w (.agg #[(.int .i64 n), (.int .i64 (f.ki)), (.int .i64 (f.x)), (.int .i64 (f.y)), (.int .i64 (f.ra)), (.slice pa1 f.ar.length ca1), (.int .i64 (f.de)), (.int .i64 (f.sy)), (.slice ps1 f.se.length cs1)]) ⟨n, f.ki, f.x, f.y, f.ra, f.ar, f.de, f.sy, f.se⟩ from fev_id HF.out)
  have CO1 : ∀ W, FeV W (.agg #[(.int .i64 (f.id)), (.int .i64 (f.ki)), (.int .i64 (f.x)), (.int .i64 (f.y)), (.int .i64 (f.ra)), .slice pa1 f.ar.length ca1, (.int .i64 (f.de)), (.int .i64 (f.sy)), .slice ps1 f.se.length cs1]) f → FeV W ((.agg #[(.int .i64 n), (.int .i64 (f.ki)), (.int .i64 (f.x)), (.int .i64 (f.y)), (.int .i64 (f.ra)), (.slice pa1 f.ar.length ca1), (.int .i64 (f.de)), (.int .i64 (f.sy)), (.slice ps1 f.se.length cs1)])) ⟨n, f.ki, f.x, f.y, f.ra, f.ar, f.de, f.sy, f.se⟩ → Calls Tryz.prog 16 #[.agg #[(.int .i64 (f.id)), (.int .i64 (f.ki)), (.int .i64 (f.x)), (.int .i64 (f.y)), (.int .i64 (f.ra)), .slice pa1 f.ar.length ca1, (.int .i64 (f.de)), (.int .i64 (f.sy)), .slice ps1 f.se.length cs1], (.agg #[(.int .i64 n), (.int .i64 (f.ki)), (.int .i64 (f.x)), (.int .i64 (f.y)), (.int .i64 (f.ra)), (.slice pa1 f.ar.length ca1), (.int .i64 (f.de)), (.int .i64 (f.sy)), (.slice ps1 f.se.length cs1)])] W (Ret W (.bool (f.id == n))) := fun W h1 h2 => by have h := Same_c _ _ _ _ W h1 h2; rw [sa_id] at h; exact h
  have HO2 := Lib.hid (show FeV w (.agg #[(.int .i64 (f.id)), (.int .i64 (f.ki)), (.int .i64 (f.x)), (.int .i64 (f.y)), (.int .i64 (f.ra)), (.slice pa1 f.ar.length ca1), (.int .i64 n), (.int .i64 (f.sy)), (.slice ps1 f.se.length cs1)]) ⟨f.id, f.ki, f.x, f.y, f.ra, f.ar, n, f.sy, f.se⟩ from fev_id HF.out)
  have CO2 : ∀ W, FeV W (.agg #[(.int .i64 (f.id)), (.int .i64 (f.ki)), (.int .i64 (f.x)), (.int .i64 (f.y)), (.int .i64 (f.ra)), .slice pa1 f.ar.length ca1, (.int .i64 (f.de)), (.int .i64 (f.sy)), .slice ps1 f.se.length cs1]) f → FeV W ((.agg #[(.int .i64 (f.id)), (.int .i64 (f.ki)), (.int .i64 (f.x)), (.int .i64 (f.y)), (.int .i64 (f.ra)), (.slice pa1 f.ar.length ca1), (.int .i64 n), (.int .i64 (f.sy)), (.slice ps1 f.se.length cs1)])) ⟨f.id, f.ki, f.x, f.y, f.ra, f.ar, n, f.sy, f.se⟩ → Calls Tryz.prog 16 #[.agg #[(.int .i64 (f.id)), (.int .i64 (f.ki)), (.int .i64 (f.x)), (.int .i64 (f.y)), (.int .i64 (f.ra)), .slice pa1 f.ar.length ca1, (.int .i64 (f.de)), (.int .i64 (f.sy)), .slice ps1 f.se.length cs1], (.agg #[(.int .i64 (f.id)), (.int .i64 (f.ki)), (.int .i64 (f.x)), (.int .i64 (f.y)), (.int .i64 (f.ra)), (.slice pa1 f.ar.length ca1), (.int .i64 n), (.int .i64 (f.sy)), (.slice ps1 f.se.length cs1)])] W (Ret W (.bool (f.de == n))) := fun W h1 h2 => by have h := Same_c _ _ _ _ W h1 h2; rw [sa_de] at h; exact h
  have HO3 := Lib.hid (show FeV w (.agg #[(.int .i64 (f.id)), (.int .i64 (f.ki)), (.int .i64 (f.x)), (.int .i64 (f.y)), (.int .i64 (f.ra)), (.slice pa1 f.ar.length ca1), (.int .i64 (f.de)), (.int .i64 n), (.slice ps1 f.se.length cs1)]) ⟨f.id, f.ki, f.x, f.y, f.ra, f.ar, f.de, n, f.se⟩ from fev_id HF.out)
  have CO3 : ∀ W, FeV W (.agg #[(.int .i64 (f.id)), (.int .i64 (f.ki)), (.int .i64 (f.x)), (.int .i64 (f.y)), (.int .i64 (f.ra)), .slice pa1 f.ar.length ca1, (.int .i64 (f.de)), (.int .i64 (f.sy)), .slice ps1 f.se.length cs1]) f → FeV W ((.agg #[(.int .i64 (f.id)), (.int .i64 (f.ki)), (.int .i64 (f.x)), (.int .i64 (f.y)), (.int .i64 (f.ra)), (.slice pa1 f.ar.length ca1), (.int .i64 (f.de)), (.int .i64 n), (.slice ps1 f.se.length cs1)])) ⟨f.id, f.ki, f.x, f.y, f.ra, f.ar, f.de, n, f.se⟩ → Calls Tryz.prog 16 #[.agg #[(.int .i64 (f.id)), (.int .i64 (f.ki)), (.int .i64 (f.x)), (.int .i64 (f.y)), (.int .i64 (f.ra)), .slice pa1 f.ar.length ca1, (.int .i64 (f.de)), (.int .i64 (f.sy)), .slice ps1 f.se.length cs1], (.agg #[(.int .i64 (f.id)), (.int .i64 (f.ki)), (.int .i64 (f.x)), (.int .i64 (f.y)), (.int .i64 (f.ra)), (.slice pa1 f.ar.length ca1), (.int .i64 (f.de)), (.int .i64 n), (.slice ps1 f.se.length cs1)])] W (Ret W (.bool (f.sy == n))) := fun W h1 h2 => by have h := Same_c _ _ _ _ W h1 h2; rw [sa_sy] at h; exact h
  have SO := va_ok hva hx1 hy1
  have CH : ∀ W, FeV W (.agg #[(.int .i64 (f.id)), (.int .i64 (f.ki)), (.int .i64 (f.x)), (.int .i64 (f.y)), (.int .i64 (f.ra)), .slice pa1 f.ar.length ca1, (.int .i64 (f.de)), (.int .i64 (f.sy)), .slice ps1 f.se.length cs1]) f → FeV W (.agg #[(.int .i64 (f.id)), (.int .i64 (f.ki)), (.int .i64 (f.x)), (.int .i64 (f.y)), (.int .i64 (f.ra)), .slice pa2 f.ar.length ca2, (.int .i64 (f.de)), (.int .i64 (f.sy)), .slice ps2 f.se.length cs2]) f → Calls Tryz.prog 20 #[.agg #[(.int .i64 (f.id)), (.int .i64 (f.ki)), (.int .i64 (f.x)), (.int .i64 (f.y)), (.int .i64 (f.ra)), .slice pa1 f.ar.length ca1, (.int .i64 (f.de)), (.int .i64 (f.sy)), .slice ps1 f.se.length cs1], .agg #[(.int .i64 (f.id)), (.int .i64 (f.ki)), (.int .i64 (f.x)), (.int .i64 (f.y)), (.int .i64 (f.ra)), .slice pa2 f.ar.length ca2, (.int .i64 (f.de)), (.int .i64 (f.sy)), .slice ps2 f.se.length cs2]] W (Ret W (.tuple #[(.bool true), (.int .i64 0)])) := fun W h1 h2 => by have h := Holds_ok _ _ _ _ W h1 h2 hva hva; rw [hoS_self SO] at h; exact h
  have CS : ∀ W, FeV W (.agg #[(.int .i64 (f.id)), (.int .i64 (f.ki)), (.int .i64 (f.x)), (.int .i64 (f.y)), (.int .i64 (f.ra)), .slice pa1 f.ar.length ca1, (.int .i64 (f.de)), (.int .i64 (f.sy)), .slice ps1 f.se.length cs1]) f → FeV W (.agg #[(.int .i64 (f.id)), (.int .i64 (f.ki)), (.int .i64 (f.x)), (.int .i64 (f.y)), (.int .i64 (f.ra)), .slice pa2 f.ar.length ca2, (.int .i64 (f.de)), (.int .i64 (f.sy)), .slice ps2 f.se.length cs2]) f → Calls Tryz.prog 22 #[.agg #[(.int .i64 (f.id)), (.int .i64 (f.ki)), (.int .i64 (f.x)), (.int .i64 (f.y)), (.int .i64 (f.ra)), .slice pa1 f.ar.length ca1, (.int .i64 (f.de)), (.int .i64 (f.sy)), .slice ps1 f.se.length cs1], .agg #[(.int .i64 (f.id)), (.int .i64 (f.ki)), (.int .i64 (f.x)), (.int .i64 (f.y)), (.int .i64 (f.ra)), .slice pa2 f.ar.length ca2, (.int .i64 (f.de)), (.int .i64 (f.sy)), .slice ps2 f.se.length cs2]] W (Ret W (.tuple #[(.bool true), (.int .i64 0)])) := fun W h1 h2 => by have h := Stands_ok _ _ _ _ W h1 h2 hva hva; rw [stS_self SO] at h; exact h
  have CV1 : ∀ W, FeV W (.agg #[(.int .i64 (f.id)), (.int .i64 (f.ki)), (.int .i64 (f.x)), (.int .i64 (f.y)), (.int .i64 (f.ra)), .slice pa1 f.ar.length ca1, (.int .i64 (f.de)), (.int .i64 (f.sy)), .slice ps1 f.se.length cs1]) f → Calls Tryz.prog 12 #[.agg #[(.int .i64 (f.id)), (.int .i64 (f.ki)), (.int .i64 (f.x)), (.int .i64 (f.y)), (.int .i64 (f.ra)), .slice pa1 f.ar.length ca1, (.int .i64 (f.de)), (.int .i64 (f.sy)), .slice ps1 f.se.length cs1]] W (Ret W (.bool true)) := fun W h1 => by have h := Valid_c _ _ W h1; rw [hva] at h; exact h
  have CV2 : ∀ W, FeV W (.agg #[(.int .i64 (f.id)), (.int .i64 (f.ki)), (.int .i64 (f.x)), (.int .i64 (f.y)), (.int .i64 (f.ra)), .slice pa2 f.ar.length ca2, (.int .i64 (f.de)), (.int .i64 (f.sy)), .slice ps2 f.se.length cs2]) f → Calls Tryz.prog 12 #[.agg #[(.int .i64 (f.id)), (.int .i64 (f.ki)), (.int .i64 (f.x)), (.int .i64 (f.y)), (.int .i64 (f.ra)), .slice pa2 f.ar.length ca2, (.int .i64 (f.de)), (.int .i64 (f.sy)), .slice ps2 f.se.length cs2]] W (Ret W (.bool true)) := fun W h1 => by have h := Valid_c _ _ W h1; rw [hva] at h; exact h
  clear hx1 hy1 hgh hva SO
  go_enter Tryz.func10, Tryz.ntmps10
  go_wp2_with fail
  refine Calls.mono (head_c _) ?_
  rintro e w1 ⟨rfl, hb⟩
  have kf0 : w1.cell? ⟨w.heap.size, 0, none⟩ = some (.int .i64 (f.id)) := cell_later hb (by go_simp)
  have kf1 : w1.cell? ⟨w.heap.size, 1, none⟩ = some (.int .i64 (f.ki)) := cell_later hb (by go_simp)
  have kf2 : w1.cell? ⟨w.heap.size, 2, none⟩ = some (.int .i64 (f.x)) := cell_later hb (by go_simp)
  have kf3 : w1.cell? ⟨w.heap.size, 3, none⟩ = some (.int .i64 (f.y)) := cell_later hb (by go_simp)
  have kf4 : w1.cell? ⟨w.heap.size, 4, none⟩ = some (.int .i64 (f.ra)) := cell_later hb (by go_simp)
  have kf5 : w1.cell? ⟨w.heap.size, 5, none⟩ = some (.slice pa1 f.ar.length ca1) := cell_later hb (by go_simp)
  have kf6 : w1.cell? ⟨w.heap.size, 6, none⟩ = some (.int .i64 (f.de)) := cell_later hb (by go_simp)
  have kf7 : w1.cell? ⟨w.heap.size, 7, none⟩ = some (.int .i64 (f.sy)) := cell_later hb (by go_simp)
  have kf8 : w1.cell? ⟨w.heap.size, 8, none⟩ = some (.slice ps1 f.se.length cs1) := cell_later hb (by go_simp)
  have kg0 : w1.cell? ⟨w.heap.size + 1, 0, none⟩ = some (.int .i64 (f.id)) := cell_later hb (by go_simp)
  have kg1 : w1.cell? ⟨w.heap.size + 1, 1, none⟩ = some (.int .i64 (f.ki)) := cell_later hb (by go_simp)
  have kg2 : w1.cell? ⟨w.heap.size + 1, 2, none⟩ = some (.int .i64 (f.x)) := cell_later hb (by go_simp)
  have kg3 : w1.cell? ⟨w.heap.size + 1, 3, none⟩ = some (.int .i64 (f.y)) := cell_later hb (by go_simp)
  have kg4 : w1.cell? ⟨w.heap.size + 1, 4, none⟩ = some (.int .i64 (f.ra)) := cell_later hb (by go_simp)
  have kg5 : w1.cell? ⟨w.heap.size + 1, 5, none⟩ = some (.slice pa2 f.ar.length ca2) := cell_later hb (by go_simp)
  have kg6 : w1.cell? ⟨w.heap.size + 1, 6, none⟩ = some (.int .i64 (f.de)) := cell_later hb (by go_simp)
  have kg7 : w1.cell? ⟨w.heap.size + 1, 7, none⟩ = some (.int .i64 (f.sy)) := cell_later hb (by go_simp)
  have kg8 : w1.cell? ⟨w.heap.size + 1, 8, none⟩ = some (.slice ps2 f.se.length cs2) := cell_later hb (by go_simp)
  have kh0 : w1.cell? ⟨w.heap.size + 1 + 1, 0, none⟩ = some (.int .i64 (h.id)) := cell_later hb (by go_simp)
  have kh1 : w1.cell? ⟨w.heap.size + 1 + 1, 1, none⟩ = some (.int .i64 (h.ki)) := cell_later hb (by go_simp)
  have kh2 : w1.cell? ⟨w.heap.size + 1 + 1, 2, none⟩ = some (.int .i64 (h.x)) := cell_later hb (by go_simp)
  have kh3 : w1.cell? ⟨w.heap.size + 1 + 1, 3, none⟩ = some (.int .i64 (h.y)) := cell_later hb (by go_simp)
  have kh4 : w1.cell? ⟨w.heap.size + 1 + 1, 4, none⟩ = some (.int .i64 (h.ra)) := cell_later hb (by go_simp)
  have kh5 : w1.cell? ⟨w.heap.size + 1 + 1, 5, none⟩ = some (.slice pa3 h.ar.length ca3) := cell_later hb (by go_simp)
  have kh6 : w1.cell? ⟨w.heap.size + 1 + 1, 6, none⟩ = some (.int .i64 (h.de)) := cell_later hb (by go_simp)
  have kh7 : w1.cell? ⟨w.heap.size + 1 + 1, 7, none⟩ = some (.int .i64 (h.sy)) := cell_later hb (by go_simp)
  have kh8 : w1.cell? ⟨w.heap.size + 1 + 1, 8, none⟩ = some (.slice ps3 h.se.length cs3) := cell_later hb (by go_simp)
  have zf : w.heap.size < w1.heap.size := World.block_lt_of_cell? _ _ kf0
  have zg : w.heap.size + 1 < w1.heap.size := World.block_lt_of_cell? _ _ kg0
  have zh : w.heap.size + 1 + 1 < w1.heap.size := World.block_lt_of_cell? _ _ kh0
  have hb0 : Below w.heap.size w w1 := bstep (balloc (balloc (balloc (Below.refl _ _) _) _) _) hb
  clear hb
  go_wp2_with fail
  refine Calls.mono (C11 _ (HF.out.below hb0) (HF.out.below hb0)) ?_
  rintro e w2 ⟨rfl, hb⟩
  replace kf0 := cell_later hb kf0
  replace kf1 := cell_later hb kf1
  replace kf2 := cell_later hb kf2
  replace kf3 := cell_later hb kf3
  replace kf4 := cell_later hb kf4
  replace kf5 := cell_later hb kf5
  replace kf6 := cell_later hb kf6
  replace kf7 := cell_later hb kf7
  replace kf8 := cell_later hb kf8
  replace kg0 := cell_later hb kg0
  replace kg1 := cell_later hb kg1
  replace kg2 := cell_later hb kg2
  replace kg3 := cell_later hb kg3
  replace kg4 := cell_later hb kg4
  replace kg5 := cell_later hb kg5
  replace kg6 := cell_later hb kg6
  replace kg7 := cell_later hb kg7
  replace kg8 := cell_later hb kg8
  replace kh0 := cell_later hb kh0
  replace kh1 := cell_later hb kh1
  replace kh2 := cell_later hb kh2
  replace kh3 := cell_later hb kh3
  replace kh4 := cell_later hb kh4
  replace kh5 := cell_later hb kh5
  replace kh6 := cell_later hb kh6
  replace kh7 := cell_later hb kh7
  replace kh8 := cell_later hb kh8
  replace zf : w.heap.size < w2.heap.size := World.block_lt_of_cell? _ _ kf0
  replace zg : w.heap.size + 1 < w2.heap.size := World.block_lt_of_cell? _ _ kg0
  replace zh : w.heap.size + 1 + 1 < w2.heap.size := World.block_lt_of_cell? _ _ kh0
  replace hb0 : Below w.heap.size w w2 := bstep hb0 hb
  clear hb
  go_wp2_with fail
  refine Calls.mono (C12 _ (HF.out.below hb0) (HG.out.below hb0)) ?_
  rintro e w3 ⟨rfl, hb⟩
  replace kf0 := cell_later hb kf0
  replace kf1 := cell_later hb kf1
  replace kf2 := cell_later hb kf2
  replace kf3 := cell_later hb kf3
  replace kf4 := cell_later hb kf4
  replace kf5 := cell_later hb kf5
  replace kf6 := cell_later hb kf6
  replace kf7 := cell_later hb kf7
  replace kf8 := cell_later hb kf8
  replace kg0 := cell_later hb kg0
  replace kg1 := cell_later hb kg1
  replace kg2 := cell_later hb kg2
  replace kg3 := cell_later hb kg3
  replace kg4 := cell_later hb kg4
  replace kg5 := cell_later hb kg5
  replace kg6 := cell_later hb kg6
  replace kg7 := cell_later hb kg7
  replace kg8 := cell_later hb kg8
  replace kh0 := cell_later hb kh0
  replace kh1 := cell_later hb kh1
  replace kh2 := cell_later hb kh2
  replace kh3 := cell_later hb kh3
  replace kh4 := cell_later hb kh4
  replace kh5 := cell_later hb kh5
  replace kh6 := cell_later hb kh6
  replace kh7 := cell_later hb kh7
  replace kh8 := cell_later hb kh8
  replace zf : w.heap.size < w3.heap.size := World.block_lt_of_cell? _ _ kf0
  replace zg : w.heap.size + 1 < w3.heap.size := World.block_lt_of_cell? _ _ kg0
  replace zh : w.heap.size + 1 + 1 < w3.heap.size := World.block_lt_of_cell? _ _ kh0
  replace hb0 : Below w.heap.size w w3 := bstep hb0 hb
  clear hb
  go_wp2_with fail
  refine Calls.mono (C23 _ (HG.out.below hb0) (HH.out.below hb0)) ?_
  rintro e w4 ⟨rfl, hb⟩
  replace kf0 := cell_later hb kf0
  replace kf1 := cell_later hb kf1
  replace kf2 := cell_later hb kf2
  replace kf3 := cell_later hb kf3
  replace kf4 := cell_later hb kf4
  replace kf5 := cell_later hb kf5
  replace kf6 := cell_later hb kf6
  replace kf7 := cell_later hb kf7
  replace kf8 := cell_later hb kf8
  replace kg0 := cell_later hb kg0
  replace kg1 := cell_later hb kg1
  replace kg2 := cell_later hb kg2
  replace kg3 := cell_later hb kg3
  replace kg4 := cell_later hb kg4
  replace kg5 := cell_later hb kg5
  replace kg6 := cell_later hb kg6
  replace kg7 := cell_later hb kg7
  replace kg8 := cell_later hb kg8
  replace kh0 := cell_later hb kh0
  replace kh1 := cell_later hb kh1
  replace kh2 := cell_later hb kh2
  replace kh3 := cell_later hb kh3
  replace kh4 := cell_later hb kh4
  replace kh5 := cell_later hb kh5
  replace kh6 := cell_later hb kh6
  replace kh7 := cell_later hb kh7
  replace kh8 := cell_later hb kh8
  replace zf : w.heap.size < w4.heap.size := World.block_lt_of_cell? _ _ kf0
  replace zg : w.heap.size + 1 < w4.heap.size := World.block_lt_of_cell? _ _ kg0
  replace zh : w.heap.size + 1 + 1 < w4.heap.size := World.block_lt_of_cell? _ _ kh0
  replace hb0 : Below w.heap.size w w4 := bstep hb0 hb
  clear hb
  go_wp2_with fail
  refine Calls.mono (C21 _ (HG.out.below hb0) (HF.out.below hb0)) ?_
  rintro e w5 ⟨rfl, hb⟩
  replace kf0 := cell_later hb kf0
  replace kf1 := cell_later hb kf1
  replace kf2 := cell_later hb kf2
  replace kf3 := cell_later hb kf3
  replace kf4 := cell_later hb kf4
  replace kf5 := cell_later hb kf5
  replace kf6 := cell_later hb kf6
  replace kf7 := cell_later hb kf7
  replace kf8 := cell_later hb kf8
  replace kg0 := cell_later hb kg0
  replace kg1 := cell_later hb kg1
  replace kg2 := cell_later hb kg2
  replace kg3 := cell_later hb kg3
  replace kg4 := cell_later hb kg4
  replace kg5 := cell_later hb kg5
  replace kg6 := cell_later hb kg6
  replace kg7 := cell_later hb kg7
  replace kg8 := cell_later hb kg8
  replace kh0 := cell_later hb kh0
  replace kh1 := cell_later hb kh1
  replace kh2 := cell_later hb kh2
  replace kh3 := cell_later hb kh3
  replace kh4 := cell_later hb kh4
  replace kh5 := cell_later hb kh5
  replace kh6 := cell_later hb kh6
  replace kh7 := cell_later hb kh7
  replace kh8 := cell_later hb kh8
  replace zf : w.heap.size < w5.heap.size := World.block_lt_of_cell? _ _ kf0
  replace zg : w.heap.size + 1 < w5.heap.size := World.block_lt_of_cell? _ _ kg0
  replace zh : w.heap.size + 1 + 1 < w5.heap.size := World.block_lt_of_cell? _ _ kh0
  replace hb0 : Below w.heap.size w w5 := bstep hb0 hb
  clear hb
  clear HH kh0 kh1 kh2 kh3 kh4 kh5 kh6 kh7 kh8 zh
  go_wp2_with fail
  go_region_held3 (fun w' => w'.cell? ⟨w.heap.size, 0, none⟩ = some (.int .i64 (f.id)) ∧ w'.cell? ⟨w.heap.size, 1, none⟩ = some (.int .i64 (f.ki)) ∧ w'.cell? ⟨w.heap.size, 2, none⟩ = some (.int .i64 (f.x)) ∧ w'.cell? ⟨w.heap.size, 3, none⟩ = some (.int .i64 (f.y)) ∧ w'.cell? ⟨w.heap.size, 4, none⟩ = some (.int .i64 (f.ra)) ∧ w'.cell? ⟨w.heap.size, 5, none⟩ = some (.slice pa1 f.ar.length ca1) ∧ w'.cell? ⟨w.heap.size, 6, none⟩ = some (.int .i64 (f.de)) ∧ w'.cell? ⟨w.heap.size, 7, none⟩ = some (.int .i64 (f.sy)) ∧ w'.cell? ⟨w.heap.size, 8, none⟩ = some (.slice ps1 f.se.length cs1) ∧ w'.cell? ⟨w5.heap.size, 0, none⟩ = some (.int .i64 n) ∧ w'.cell? ⟨w5.heap.size, 1, none⟩ = some (.int .i64 (f.ki)) ∧ w'.cell? ⟨w5.heap.size, 2, none⟩ = some (.int .i64 (f.x)) ∧ w'.cell? ⟨w5.heap.size, 3, none⟩ = some (.int .i64 (f.y)) ∧ w'.cell? ⟨w5.heap.size, 4, none⟩ = some (.int .i64 (f.ra)) ∧ w'.cell? ⟨w5.heap.size, 5, none⟩ = some (.slice pa1 f.ar.length ca1) ∧ w'.cell? ⟨w5.heap.size, 6, none⟩ = some (.int .i64 (f.de)) ∧ w'.cell? ⟨w5.heap.size, 7, none⟩ = some (.int .i64 (f.sy)) ∧ w'.cell? ⟨w5.heap.size, 8, none⟩ = some (.slice ps1 f.se.length cs1)) (first | (go_keep; done) | ((repeat' apply And.intro) <;> go_simp)) (first | (go_at_call 16; refine Calls.mono (CO1 _ (HF.out.below (by repeat (first | with_reducible exact Below.refl _ _ | with_reducible assumption | with_reducible refine Below.setCell ?_ (by first | omega | (simp <;> omega)) _ | with_reducible refine balloc ?_ _ | with_reducible refine Below.drew ?_ | with_reducible refine bstep ?_ (by with_reducible assumption)))) (HO1.out.below (by repeat (first | with_reducible exact Below.refl _ _ | with_reducible assumption | with_reducible refine Below.setCell ?_ (by first | omega | (simp <;> omega)) _ | with_reducible refine balloc ?_ _ | with_reducible refine Below.drew ?_ | with_reducible refine bstep ?_ (by with_reducible assumption))))) ?_; rintro e wr ⟨rfl, hb⟩; have kf0 : wr.cell? ⟨w.heap.size, 0, none⟩ = some (.int .i64 (f.id)) := cell_later hb (by first | (with_reducible assumption) | go_simp); have kf1 : wr.cell? ⟨w.heap.size, 1, none⟩ = some (.int .i64 (f.ki)) := cell_later hb (by first | (with_reducible assumption) | go_simp); have kf2 : wr.cell? ⟨w.heap.size, 2, none⟩ = some (.int .i64 (f.x)) := cell_later hb (by first | (with_reducible assumption) | go_simp); have kf3 : wr.cell? ⟨w.heap.size, 3, none⟩ = some (.int .i64 (f.y)) := cell_later hb (by first | (with_reducible assumption) | go_simp); have kf4 : wr.cell? ⟨w.heap.size, 4, none⟩ = some (.int .i64 (f.ra)) := cell_later hb (by first | (with_reducible assumption) | go_simp); have kf5 : wr.cell? ⟨w.heap.size, 5, none⟩ = some (.slice pa1 f.ar.length ca1) := cell_later hb (by first | (with_reducible assumption) | go_simp); have kf6 : wr.cell? ⟨w.heap.size, 6, none⟩ = some (.int .i64 (f.de)) := cell_later hb (by first | (with_reducible assumption) | go_simp); have kf7 : wr.cell? ⟨w.heap.size, 7, none⟩ = some (.int .i64 (f.sy)) := cell_later hb (by first | (with_reducible assumption) | go_simp); have kf8 : wr.cell? ⟨w.heap.size, 8, none⟩ = some (.slice ps1 f.se.length cs1) := cell_later hb (by first | (with_reducible assumption) | go_simp); have zf : w.heap.size < wr.heap.size := World.block_lt_of_cell? _ _ kf0; have kg0 : wr.cell? ⟨w.heap.size + 1, 0, none⟩ = some (.int .i64 (f.id)) := cell_later hb (by first | (with_reducible assumption) | go_simp); have kg1 : wr.cell? ⟨w.heap.size + 1, 1, none⟩ = some (.int .i64 (f.ki)) := cell_later hb (by first | (with_reducible assumption) | go_simp); have kg2 : wr.cell? ⟨w.heap.size + 1, 2, none⟩ = some (.int .i64 (f.x)) := cell_later hb (by first | (with_reducible assumption) | go_simp); have kg3 : wr.cell? ⟨w.heap.size + 1, 3, none⟩ = some (.int .i64 (f.y)) := cell_later hb (by first | (with_reducible assumption) | go_simp); have kg4 : wr.cell? ⟨w.heap.size + 1, 4, none⟩ = some (.int .i64 (f.ra)) := cell_later hb (by first | (with_reducible assumption) | go_simp); have kg5 : wr.cell? ⟨w.heap.size + 1, 5, none⟩ = some (.slice pa2 f.ar.length ca2) := cell_later hb (by first | (with_reducible assumption) | go_simp); have kg6 : wr.cell? ⟨w.heap.size + 1, 6, none⟩ = some (.int .i64 (f.de)) := cell_later hb (by first | (with_reducible assumption) | go_simp); have kg7 : wr.cell? ⟨w.heap.size + 1, 7, none⟩ = some (.int .i64 (f.sy)) := cell_later hb (by first | (with_reducible assumption) | go_simp); have kg8 : wr.cell? ⟨w.heap.size + 1, 8, none⟩ = some (.slice ps2 f.se.length cs2) := cell_later hb (by first | (with_reducible assumption) | go_simp); have zg : w.heap.size + 1 < wr.heap.size := World.block_lt_of_cell? _ _ kg0; have ko0 : wr.cell? ⟨w5.heap.size, 0, none⟩ = some (.int .i64 n) := cell_later hb (by first | (with_reducible assumption) | go_simp); have jo0 : wr.frozen? ⟨w5.heap.size, 0, none⟩ = false := (by rw [(bcell hb).2 _ _ (by first | omega | (simp <;> omega))]; first | (with_reducible assumption) | go_simp); have ko1 : wr.cell? ⟨w5.heap.size, 1, none⟩ = some (.int .i64 (f.ki)) := cell_later hb (by first | (with_reducible assumption) | go_simp); have jo1 : wr.frozen? ⟨w5.heap.size, 1, none⟩ = false := (by rw [(bcell hb).2 _ _ (by first | omega | (simp <;> omega))]; first | (with_reducible assumption) | go_simp); have ko2 : wr.cell? ⟨w5.heap.size, 2, none⟩ = some (.int .i64 (f.x)) := cell_later hb (by first | (with_reducible assumption) | go_simp); have jo2 : wr.frozen? ⟨w5.heap.size, 2, none⟩ = false := (by rw [(bcell hb).2 _ _ (by first | omega | (simp <;> omega))]; first | (with_reducible assumption) | go_simp); have ko3 : wr.cell? ⟨w5.heap.size, 3, none⟩ = some (.int .i64 (f.y)) := cell_later hb (by first | (with_reducible assumption) | go_simp); have jo3 : wr.frozen? ⟨w5.heap.size, 3, none⟩ = false := (by rw [(bcell hb).2 _ _ (by first | omega | (simp <;> omega))]; first | (with_reducible assumption) | go_simp); have ko4 : wr.cell? ⟨w5.heap.size, 4, none⟩ = some (.int .i64 (f.ra)) := cell_later hb (by first | (with_reducible assumption) | go_simp); have jo4 : wr.frozen? ⟨w5.heap.size, 4, none⟩ = false := (by rw [(bcell hb).2 _ _ (by first | omega | (simp <;> omega))]; first | (with_reducible assumption) | go_simp); have ko5 : wr.cell? ⟨w5.heap.size, 5, none⟩ = some (.slice pa1 f.ar.length ca1) := cell_later hb (by first | (with_reducible assumption) | go_simp); have jo5 : wr.frozen? ⟨w5.heap.size, 5, none⟩ = false := (by rw [(bcell hb).2 _ _ (by first | omega | (simp <;> omega))]; first | (with_reducible assumption) | go_simp); have ko6 : wr.cell? ⟨w5.heap.size, 6, none⟩ = some (.int .i64 (f.de)) := cell_later hb (by first | (with_reducible assumption) | go_simp); have jo6 : wr.frozen? ⟨w5.heap.size, 6, none⟩ = false := (by rw [(bcell hb).2 _ _ (by first | omega | (simp <;> omega))]; first | (with_reducible assumption) | go_simp); have ko7 : wr.cell? ⟨w5.heap.size, 7, none⟩ = some (.int .i64 (f.sy)) := cell_later hb (by first | (with_reducible assumption) | go_simp); have jo7 : wr.frozen? ⟨w5.heap.size, 7, none⟩ = false := (by rw [(bcell hb).2 _ _ (by first | omega | (simp <;> omega))]; first | (with_reducible assumption) | go_simp); have ko8 : wr.cell? ⟨w5.heap.size, 8, none⟩ = some (.slice ps1 f.se.length cs1) := cell_later hb (by first | (with_reducible assumption) | go_simp); have jo8 : wr.frozen? ⟨w5.heap.size, 8, none⟩ = false := (by rw [(bcell hb).2 _ _ (by first | omega | (simp <;> omega))]; first | (with_reducible assumption) | go_simp); have zo : w5.heap.size < wr.heap.size := World.block_lt_of_cell? _ _ ko0; have hb0 : Below w.heap.size w wr := (by repeat (first | with_reducible exact Below.refl _ _ | with_reducible assumption | with_reducible refine Below.setCell ?_ (by first | omega | (simp <;> omega)) _ | with_reducible refine balloc ?_ _ | with_reducible refine Below.drew ?_ | with_reducible refine bstep ?_ (by with_reducible assumption))); clear hb))
  have ko9 : ((((((((((wr.setCell ⟨w5.heap.size, 0, none⟩ (.int .i64 (f.id))).setCell ⟨w5.heap.size, 1, none⟩ (.int .i64 (f.ki))).setCell ⟨w5.heap.size, 2, none⟩ (.int .i64 (f.x))).setCell ⟨w5.heap.size, 3, none⟩ (.int .i64 (f.y))).setCell ⟨w5.heap.size, 4, none⟩ (.int .i64 (f.ra))).setCell ⟨w5.heap.size, 5, none⟩ (.slice pa1 f.ar.length ca1)).setCell ⟨w5.heap.size, 6, none⟩ (.int .i64 (f.de))).setCell ⟨w5.heap.size, 7, none⟩ (.int .i64 (f.sy))).setCell ⟨w5.heap.size, 8, none⟩ (.slice ps1 f.se.length cs1)).setCell ⟨w5.heap.size, 6, none⟩ (.int .i64 n)).drew.cell? ⟨w5.heap.size, 6, none⟩ = some (.int .i64 n) := (drew_cell _ _).trans (set_ex (cs_some (cs_some (cs_some (cs_some (cs_some (cs_some (cs_some (cs_some (cs_some (⟨_, ko6⟩)))))))))))
  go_wp2_with fail
  go_region_held3 (fun w' => w'.cell? ⟨w.heap.size, 0, none⟩ = some (.int .i64 (f.id)) ∧ w'.cell? ⟨w.heap.size, 1, none⟩ = some (.int .i64 (f.ki)) ∧ w'.cell? ⟨w.heap.size, 2, none⟩ = some (.int .i64 (f.x)) ∧ w'.cell? ⟨w.heap.size, 3, none⟩ = some (.int .i64 (f.y)) ∧ w'.cell? ⟨w.heap.size, 4, none⟩ = some (.int .i64 (f.ra)) ∧ w'.cell? ⟨w.heap.size, 5, none⟩ = some (.slice pa1 f.ar.length ca1) ∧ w'.cell? ⟨w.heap.size, 6, none⟩ = some (.int .i64 (f.de)) ∧ w'.cell? ⟨w.heap.size, 7, none⟩ = some (.int .i64 (f.sy)) ∧ w'.cell? ⟨w.heap.size, 8, none⟩ = some (.slice ps1 f.se.length cs1) ∧ w'.cell? ⟨w5.heap.size, 0, none⟩ = some (.int .i64 (f.id)) ∧ w'.cell? ⟨w5.heap.size, 1, none⟩ = some (.int .i64 (f.ki)) ∧ w'.cell? ⟨w5.heap.size, 2, none⟩ = some (.int .i64 (f.x)) ∧ w'.cell? ⟨w5.heap.size, 3, none⟩ = some (.int .i64 (f.y)) ∧ w'.cell? ⟨w5.heap.size, 4, none⟩ = some (.int .i64 (f.ra)) ∧ w'.cell? ⟨w5.heap.size, 5, none⟩ = some (.slice pa1 f.ar.length ca1) ∧ w'.cell? ⟨w5.heap.size, 6, none⟩ = some (.int .i64 n) ∧ w'.cell? ⟨w5.heap.size, 7, none⟩ = some (.int .i64 (f.sy)) ∧ w'.cell? ⟨w5.heap.size, 8, none⟩ = some (.slice ps1 f.se.length cs1)) (first | (go_keep; done) | ((repeat' apply And.intro) <;> go_simp)) (first | (go_at_call 16; refine Calls.mono (CO2 _ (HF.out.below (by repeat (first | with_reducible exact Below.refl _ _ | with_reducible assumption | with_reducible refine Below.setCell ?_ (by first | omega | (simp <;> omega)) _ | with_reducible refine balloc ?_ _ | with_reducible refine Below.drew ?_ | with_reducible refine bstep ?_ (by with_reducible assumption)))) (HO2.out.below (by repeat (first | with_reducible exact Below.refl _ _ | with_reducible assumption | with_reducible refine Below.setCell ?_ (by first | omega | (simp <;> omega)) _ | with_reducible refine balloc ?_ _ | with_reducible refine Below.drew ?_ | with_reducible refine bstep ?_ (by with_reducible assumption))))) ?_; rintro e wq ⟨rfl, hb⟩; have kf0 : wq.cell? ⟨w.heap.size, 0, none⟩ = some (.int .i64 (f.id)) := cell_later hb (by first | (with_reducible assumption) | go_simp); have kf1 : wq.cell? ⟨w.heap.size, 1, none⟩ = some (.int .i64 (f.ki)) := cell_later hb (by first | (with_reducible assumption) | go_simp); have kf2 : wq.cell? ⟨w.heap.size, 2, none⟩ = some (.int .i64 (f.x)) := cell_later hb (by first | (with_reducible assumption) | go_simp); have kf3 : wq.cell? ⟨w.heap.size, 3, none⟩ = some (.int .i64 (f.y)) := cell_later hb (by first | (with_reducible assumption) | go_simp); have kf4 : wq.cell? ⟨w.heap.size, 4, none⟩ = some (.int .i64 (f.ra)) := cell_later hb (by first | (with_reducible assumption) | go_simp); have kf5 : wq.cell? ⟨w.heap.size, 5, none⟩ = some (.slice pa1 f.ar.length ca1) := cell_later hb (by first | (with_reducible assumption) | go_simp); have kf6 : wq.cell? ⟨w.heap.size, 6, none⟩ = some (.int .i64 (f.de)) := cell_later hb (by first | (with_reducible assumption) | go_simp); have kf7 : wq.cell? ⟨w.heap.size, 7, none⟩ = some (.int .i64 (f.sy)) := cell_later hb (by first | (with_reducible assumption) | go_simp); have kf8 : wq.cell? ⟨w.heap.size, 8, none⟩ = some (.slice ps1 f.se.length cs1) := cell_later hb (by first | (with_reducible assumption) | go_simp); have zf : w.heap.size < wq.heap.size := World.block_lt_of_cell? _ _ kf0; have kg0 : wq.cell? ⟨w.heap.size + 1, 0, none⟩ = some (.int .i64 (f.id)) := cell_later hb (by first | (with_reducible assumption) | go_simp); have kg1 : wq.cell? ⟨w.heap.size + 1, 1, none⟩ = some (.int .i64 (f.ki)) := cell_later hb (by first | (with_reducible assumption) | go_simp); have kg2 : wq.cell? ⟨w.heap.size + 1, 2, none⟩ = some (.int .i64 (f.x)) := cell_later hb (by first | (with_reducible assumption) | go_simp); have kg3 : wq.cell? ⟨w.heap.size + 1, 3, none⟩ = some (.int .i64 (f.y)) := cell_later hb (by first | (with_reducible assumption) | go_simp); have kg4 : wq.cell? ⟨w.heap.size + 1, 4, none⟩ = some (.int .i64 (f.ra)) := cell_later hb (by first | (with_reducible assumption) | go_simp); have kg5 : wq.cell? ⟨w.heap.size + 1, 5, none⟩ = some (.slice pa2 f.ar.length ca2) := cell_later hb (by first | (with_reducible assumption) | go_simp); have kg6 : wq.cell? ⟨w.heap.size + 1, 6, none⟩ = some (.int .i64 (f.de)) := cell_later hb (by first | (with_reducible assumption) | go_simp); have kg7 : wq.cell? ⟨w.heap.size + 1, 7, none⟩ = some (.int .i64 (f.sy)) := cell_later hb (by first | (with_reducible assumption) | go_simp); have kg8 : wq.cell? ⟨w.heap.size + 1, 8, none⟩ = some (.slice ps2 f.se.length cs2) := cell_later hb (by first | (with_reducible assumption) | go_simp); have zg : w.heap.size + 1 < wq.heap.size := World.block_lt_of_cell? _ _ kg0; have ko0 : wq.cell? ⟨w5.heap.size, 0, none⟩ = some (.int .i64 (f.id)) := cell_later hb (by first | (with_reducible assumption) | go_simp); have jo0 : wq.frozen? ⟨w5.heap.size, 0, none⟩ = false := (by rw [(bcell hb).2 _ _ (by first | omega | (simp <;> omega))]; first | (with_reducible assumption) | go_simp); have ko1 : wq.cell? ⟨w5.heap.size, 1, none⟩ = some (.int .i64 (f.ki)) := cell_later hb (by first | (with_reducible assumption) | go_simp); have jo1 : wq.frozen? ⟨w5.heap.size, 1, none⟩ = false := (by rw [(bcell hb).2 _ _ (by first | omega | (simp <;> omega))]; first | (with_reducible assumption) | go_simp); have ko2 : wq.cell? ⟨w5.heap.size, 2, none⟩ = some (.int .i64 (f.x)) := cell_later hb (by first | (with_reducible assumption) | go_simp); have jo2 : wq.frozen? ⟨w5.heap.size, 2, none⟩ = false := (by rw [(bcell hb).2 _ _ (by first | omega | (simp <;> omega))]; first | (with_reducible assumption) | go_simp); have ko3 : wq.cell? ⟨w5.heap.size, 3, none⟩ = some (.int .i64 (f.y)) := cell_later hb (by first | (with_reducible assumption) | go_simp); have jo3 : wq.frozen? ⟨w5.heap.size, 3, none⟩ = false := (by rw [(bcell hb).2 _ _ (by first | omega | (simp <;> omega))]; first | (with_reducible assumption) | go_simp); have ko4 : wq.cell? ⟨w5.heap.size, 4, none⟩ = some (.int .i64 (f.ra)) := cell_later hb (by first | (with_reducible assumption) | go_simp); have jo4 : wq.frozen? ⟨w5.heap.size, 4, none⟩ = false := (by rw [(bcell hb).2 _ _ (by first | omega | (simp <;> omega))]; first | (with_reducible assumption) | go_simp); have ko5 : wq.cell? ⟨w5.heap.size, 5, none⟩ = some (.slice pa1 f.ar.length ca1) := cell_later hb (by first | (with_reducible assumption) | go_simp); have jo5 : wq.frozen? ⟨w5.heap.size, 5, none⟩ = false := (by rw [(bcell hb).2 _ _ (by first | omega | (simp <;> omega))]; first | (with_reducible assumption) | go_simp); have ko6 : wq.cell? ⟨w5.heap.size, 6, none⟩ = some (.int .i64 n) := cell_later hb (by first | (with_reducible assumption) | go_simp); have jo6 : wq.frozen? ⟨w5.heap.size, 6, none⟩ = false := (by rw [(bcell hb).2 _ _ (by first | omega | (simp <;> omega))]; first | (with_reducible assumption) | go_simp); have ko7 : wq.cell? ⟨w5.heap.size, 7, none⟩ = some (.int .i64 (f.sy)) := cell_later hb (by first | (with_reducible assumption) | go_simp); have jo7 : wq.frozen? ⟨w5.heap.size, 7, none⟩ = false := (by rw [(bcell hb).2 _ _ (by first | omega | (simp <;> omega))]; first | (with_reducible assumption) | go_simp); have ko8 : wq.cell? ⟨w5.heap.size, 8, none⟩ = some (.slice ps1 f.se.length cs1) := cell_later hb (by first | (with_reducible assumption) | go_simp); have jo8 : wq.frozen? ⟨w5.heap.size, 8, none⟩ = false := (by rw [(bcell hb).2 _ _ (by first | omega | (simp <;> omega))]; first | (with_reducible assumption) | go_simp); have zo : w5.heap.size < wq.heap.size := World.block_lt_of_cell? _ _ ko0; have hb0 : Below w.heap.size w wq := (by repeat (first | with_reducible exact Below.refl _ _ | with_reducible assumption | with_reducible refine Below.setCell ?_ (by first | omega | (simp <;> omega)) _ | with_reducible refine balloc ?_ _ | with_reducible refine Below.drew ?_ | with_reducible refine bstep ?_ (by with_reducible assumption))); clear hb))
  have ko9 : ((((((((((wq.setCell ⟨w5.heap.size, 0, none⟩ (.int .i64 (f.id))).setCell ⟨w5.heap.size, 1, none⟩ (.int .i64 (f.ki))).setCell ⟨w5.heap.size, 2, none⟩ (.int .i64 (f.x))).setCell ⟨w5.heap.size, 3, none⟩ (.int .i64 (f.y))).setCell ⟨w5.heap.size, 4, none⟩ (.int .i64 (f.ra))).setCell ⟨w5.heap.size, 5, none⟩ (.slice pa1 f.ar.length ca1)).setCell ⟨w5.heap.size, 6, none⟩ (.int .i64 (f.de))).setCell ⟨w5.heap.size, 7, none⟩ (.int .i64 (f.sy))).setCell ⟨w5.heap.size, 8, none⟩ (.slice ps1 f.se.length cs1)).setCell ⟨w5.heap.size, 7, none⟩ (.int .i64 n)).drew.cell? ⟨w5.heap.size, 7, none⟩ = some (.int .i64 n) := (drew_cell _ _).trans (set_ex (cs_some (cs_some (cs_some (cs_some (cs_some (cs_some (cs_some (cs_some (cs_some (⟨_, ko7⟩)))))))))))
  go_wp2_with fail
  go_region_held3 (fun w' => w'.cell? ⟨w.heap.size, 0, none⟩ = some (.int .i64 (f.id)) ∧ w'.cell? ⟨w.heap.size, 1, none⟩ = some (.int .i64 (f.ki)) ∧ w'.cell? ⟨w.heap.size, 2, none⟩ = some (.int .i64 (f.x)) ∧ w'.cell? ⟨w.heap.size, 3, none⟩ = some (.int .i64 (f.y)) ∧ w'.cell? ⟨w.heap.size, 4, none⟩ = some (.int .i64 (f.ra)) ∧ w'.cell? ⟨w.heap.size, 5, none⟩ = some (.slice pa1 f.ar.length ca1) ∧ w'.cell? ⟨w.heap.size, 6, none⟩ = some (.int .i64 (f.de)) ∧ w'.cell? ⟨w.heap.size, 7, none⟩ = some (.int .i64 (f.sy)) ∧ w'.cell? ⟨w.heap.size, 8, none⟩ = some (.slice ps1 f.se.length cs1) ∧ w'.cell? ⟨w5.heap.size, 0, none⟩ = some (.int .i64 (f.id)) ∧ w'.cell? ⟨w5.heap.size, 1, none⟩ = some (.int .i64 (f.ki)) ∧ w'.cell? ⟨w5.heap.size, 2, none⟩ = some (.int .i64 (f.x)) ∧ w'.cell? ⟨w5.heap.size, 3, none⟩ = some (.int .i64 (f.y)) ∧ w'.cell? ⟨w5.heap.size, 4, none⟩ = some (.int .i64 (f.ra)) ∧ w'.cell? ⟨w5.heap.size, 5, none⟩ = some (.slice pa1 f.ar.length ca1) ∧ w'.cell? ⟨w5.heap.size, 6, none⟩ = some (.int .i64 (f.de)) ∧ w'.cell? ⟨w5.heap.size, 7, none⟩ = some (.int .i64 n) ∧ w'.cell? ⟨w5.heap.size, 8, none⟩ = some (.slice ps1 f.se.length cs1)) (first | (go_keep; done) | ((repeat' apply And.intro) <;> go_simp)) (first | (go_at_call 16; refine Calls.mono (CO3 _ (HF.out.below (by repeat (first | with_reducible exact Below.refl _ _ | with_reducible assumption | with_reducible refine Below.setCell ?_ (by first | omega | (simp <;> omega)) _ | with_reducible refine balloc ?_ _ | with_reducible refine Below.drew ?_ | with_reducible refine bstep ?_ (by with_reducible assumption)))) (HO3.out.below (by repeat (first | with_reducible exact Below.refl _ _ | with_reducible assumption | with_reducible refine Below.setCell ?_ (by first | omega | (simp <;> omega)) _ | with_reducible refine balloc ?_ _ | with_reducible refine Below.drew ?_ | with_reducible refine bstep ?_ (by with_reducible assumption))))) ?_; rintro e wp ⟨rfl, hb⟩; have kf0 : wp.cell? ⟨w.heap.size, 0, none⟩ = some (.int .i64 (f.id)) := cell_later hb (by first | (with_reducible assumption) | go_simp); have kf1 : wp.cell? ⟨w.heap.size, 1, none⟩ = some (.int .i64 (f.ki)) := cell_later hb (by first | (with_reducible assumption) | go_simp); have kf2 : wp.cell? ⟨w.heap.size, 2, none⟩ = some (.int .i64 (f.x)) := cell_later hb (by first | (with_reducible assumption) | go_simp); have kf3 : wp.cell? ⟨w.heap.size, 3, none⟩ = some (.int .i64 (f.y)) := cell_later hb (by first | (with_reducible assumption) | go_simp); have kf4 : wp.cell? ⟨w.heap.size, 4, none⟩ = some (.int .i64 (f.ra)) := cell_later hb (by first | (with_reducible assumption) | go_simp); have kf5 : wp.cell? ⟨w.heap.size, 5, none⟩ = some (.slice pa1 f.ar.length ca1) := cell_later hb (by first | (with_reducible assumption) | go_simp); have kf6 : wp.cell? ⟨w.heap.size, 6, none⟩ = some (.int .i64 (f.de)) := cell_later hb (by first | (with_reducible assumption) | go_simp); have kf7 : wp.cell? ⟨w.heap.size, 7, none⟩ = some (.int .i64 (f.sy)) := cell_later hb (by first | (with_reducible assumption) | go_simp); have kf8 : wp.cell? ⟨w.heap.size, 8, none⟩ = some (.slice ps1 f.se.length cs1) := cell_later hb (by first | (with_reducible assumption) | go_simp); have zf : w.heap.size < wp.heap.size := World.block_lt_of_cell? _ _ kf0; have kg0 : wp.cell? ⟨w.heap.size + 1, 0, none⟩ = some (.int .i64 (f.id)) := cell_later hb (by first | (with_reducible assumption) | go_simp); have kg1 : wp.cell? ⟨w.heap.size + 1, 1, none⟩ = some (.int .i64 (f.ki)) := cell_later hb (by first | (with_reducible assumption) | go_simp); have kg2 : wp.cell? ⟨w.heap.size + 1, 2, none⟩ = some (.int .i64 (f.x)) := cell_later hb (by first | (with_reducible assumption) | go_simp); have kg3 : wp.cell? ⟨w.heap.size + 1, 3, none⟩ = some (.int .i64 (f.y)) := cell_later hb (by first | (with_reducible assumption) | go_simp); have kg4 : wp.cell? ⟨w.heap.size + 1, 4, none⟩ = some (.int .i64 (f.ra)) := cell_later hb (by first | (with_reducible assumption) | go_simp); have kg5 : wp.cell? ⟨w.heap.size + 1, 5, none⟩ = some (.slice pa2 f.ar.length ca2) := cell_later hb (by first | (with_reducible assumption) | go_simp); have kg6 : wp.cell? ⟨w.heap.size + 1, 6, none⟩ = some (.int .i64 (f.de)) := cell_later hb (by first | (with_reducible assumption) | go_simp); have kg7 : wp.cell? ⟨w.heap.size + 1, 7, none⟩ = some (.int .i64 (f.sy)) := cell_later hb (by first | (with_reducible assumption) | go_simp); have kg8 : wp.cell? ⟨w.heap.size + 1, 8, none⟩ = some (.slice ps2 f.se.length cs2) := cell_later hb (by first | (with_reducible assumption) | go_simp); have zg : w.heap.size + 1 < wp.heap.size := World.block_lt_of_cell? _ _ kg0; have ko0 : wp.cell? ⟨w5.heap.size, 0, none⟩ = some (.int .i64 (f.id)) := cell_later hb (by first | (with_reducible assumption) | go_simp); have jo0 : wp.frozen? ⟨w5.heap.size, 0, none⟩ = false := (by rw [(bcell hb).2 _ _ (by first | omega | (simp <;> omega))]; first | (with_reducible assumption) | go_simp); have ko1 : wp.cell? ⟨w5.heap.size, 1, none⟩ = some (.int .i64 (f.ki)) := cell_later hb (by first | (with_reducible assumption) | go_simp); have jo1 : wp.frozen? ⟨w5.heap.size, 1, none⟩ = false := (by rw [(bcell hb).2 _ _ (by first | omega | (simp <;> omega))]; first | (with_reducible assumption) | go_simp); have ko2 : wp.cell? ⟨w5.heap.size, 2, none⟩ = some (.int .i64 (f.x)) := cell_later hb (by first | (with_reducible assumption) | go_simp); have jo2 : wp.frozen? ⟨w5.heap.size, 2, none⟩ = false := (by rw [(bcell hb).2 _ _ (by first | omega | (simp <;> omega))]; first | (with_reducible assumption) | go_simp); have ko3 : wp.cell? ⟨w5.heap.size, 3, none⟩ = some (.int .i64 (f.y)) := cell_later hb (by first | (with_reducible assumption) | go_simp); have jo3 : wp.frozen? ⟨w5.heap.size, 3, none⟩ = false := (by rw [(bcell hb).2 _ _ (by first | omega | (simp <;> omega))]; first | (with_reducible assumption) | go_simp); have ko4 : wp.cell? ⟨w5.heap.size, 4, none⟩ = some (.int .i64 (f.ra)) := cell_later hb (by first | (with_reducible assumption) | go_simp); have jo4 : wp.frozen? ⟨w5.heap.size, 4, none⟩ = false := (by rw [(bcell hb).2 _ _ (by first | omega | (simp <;> omega))]; first | (with_reducible assumption) | go_simp); have ko5 : wp.cell? ⟨w5.heap.size, 5, none⟩ = some (.slice pa1 f.ar.length ca1) := cell_later hb (by first | (with_reducible assumption) | go_simp); have jo5 : wp.frozen? ⟨w5.heap.size, 5, none⟩ = false := (by rw [(bcell hb).2 _ _ (by first | omega | (simp <;> omega))]; first | (with_reducible assumption) | go_simp); have ko6 : wp.cell? ⟨w5.heap.size, 6, none⟩ = some (.int .i64 (f.de)) := cell_later hb (by first | (with_reducible assumption) | go_simp); have jo6 : wp.frozen? ⟨w5.heap.size, 6, none⟩ = false := (by rw [(bcell hb).2 _ _ (by first | omega | (simp <;> omega))]; first | (with_reducible assumption) | go_simp); have ko7 : wp.cell? ⟨w5.heap.size, 7, none⟩ = some (.int .i64 n) := cell_later hb (by first | (with_reducible assumption) | go_simp); have jo7 : wp.frozen? ⟨w5.heap.size, 7, none⟩ = false := (by rw [(bcell hb).2 _ _ (by first | omega | (simp <;> omega))]; first | (with_reducible assumption) | go_simp); have ko8 : wp.cell? ⟨w5.heap.size, 8, none⟩ = some (.slice ps1 f.se.length cs1) := cell_later hb (by first | (with_reducible assumption) | go_simp); have jo8 : wp.frozen? ⟨w5.heap.size, 8, none⟩ = false := (by rw [(bcell hb).2 _ _ (by first | omega | (simp <;> omega))]; first | (with_reducible assumption) | go_simp); have zo : w5.heap.size < wp.heap.size := World.block_lt_of_cell? _ _ ko0; have hb0 : Below w.heap.size w wp := (by repeat (first | with_reducible exact Below.refl _ _ | with_reducible assumption | with_reducible refine Below.setCell ?_ (by first | omega | (simp <;> omega)) _ | with_reducible refine balloc ?_ _ | with_reducible refine Below.drew ?_ | with_reducible refine bstep ?_ (by with_reducible assumption))); clear hb))
  clear CO1 CO2 CO3 HO1 HO2 HO3 C11 C12 C23 C21 ko0 jo0 ko1 jo1 ko2 jo2 ko3 jo3 ko4 jo4 ko5 jo5 ko6 jo6 ko7 jo7 ko8 jo8 zo ko9
  go_wp2_with fail
  refine Calls.mono (CH _ (HF.out.below hb0) (HG.out.below hb0)) ?_
  rintro e w6 ⟨rfl, hb⟩
  replace kf0 : w6.cell? ⟨w.heap.size, 0, none⟩ = some (.int .i64 (f.id)) := cell_later hb (by first | with_reducible exact kf0 | go_simp)
  replace kf1 : w6.cell? ⟨w.heap.size, 1, none⟩ = some (.int .i64 (f.ki)) := cell_later hb (by first | with_reducible exact kf1 | go_simp)
  replace kf2 : w6.cell? ⟨w.heap.size, 2, none⟩ = some (.int .i64 (f.x)) := cell_later hb (by first | with_reducible exact kf2 | go_simp)
  replace kf3 : w6.cell? ⟨w.heap.size, 3, none⟩ = some (.int .i64 (f.y)) := cell_later hb (by first | with_reducible exact kf3 | go_simp)
  replace kf4 : w6.cell? ⟨w.heap.size, 4, none⟩ = some (.int .i64 (f.ra)) := cell_later hb (by first | with_reducible exact kf4 | go_simp)
  replace kf5 : w6.cell? ⟨w.heap.size, 5, none⟩ = some (.slice pa1 f.ar.length ca1) := cell_later hb (by first | with_reducible exact kf5 | go_simp)
  replace kf6 : w6.cell? ⟨w.heap.size, 6, none⟩ = some (.int .i64 (f.de)) := cell_later hb (by first | with_reducible exact kf6 | go_simp)
  replace kf7 : w6.cell? ⟨w.heap.size, 7, none⟩ = some (.int .i64 (f.sy)) := cell_later hb (by first | with_reducible exact kf7 | go_simp)
  replace kf8 : w6.cell? ⟨w.heap.size, 8, none⟩ = some (.slice ps1 f.se.length cs1) := cell_later hb (by first | with_reducible exact kf8 | go_simp)
  replace kg0 : w6.cell? ⟨w.heap.size + 1, 0, none⟩ = some (.int .i64 (f.id)) := cell_later hb (by first | with_reducible exact kg0 | go_simp)
  replace kg1 : w6.cell? ⟨w.heap.size + 1, 1, none⟩ = some (.int .i64 (f.ki)) := cell_later hb (by first | with_reducible exact kg1 | go_simp)
  replace kg2 : w6.cell? ⟨w.heap.size + 1, 2, none⟩ = some (.int .i64 (f.x)) := cell_later hb (by first | with_reducible exact kg2 | go_simp)
  replace kg3 : w6.cell? ⟨w.heap.size + 1, 3, none⟩ = some (.int .i64 (f.y)) := cell_later hb (by first | with_reducible exact kg3 | go_simp)
  replace kg4 : w6.cell? ⟨w.heap.size + 1, 4, none⟩ = some (.int .i64 (f.ra)) := cell_later hb (by first | with_reducible exact kg4 | go_simp)
  replace kg5 : w6.cell? ⟨w.heap.size + 1, 5, none⟩ = some (.slice pa2 f.ar.length ca2) := cell_later hb (by first | with_reducible exact kg5 | go_simp)
  replace kg6 : w6.cell? ⟨w.heap.size + 1, 6, none⟩ = some (.int .i64 (f.de)) := cell_later hb (by first | with_reducible exact kg6 | go_simp)
  replace kg7 : w6.cell? ⟨w.heap.size + 1, 7, none⟩ = some (.int .i64 (f.sy)) := cell_later hb (by first | with_reducible exact kg7 | go_simp)
  replace kg8 : w6.cell? ⟨w.heap.size + 1, 8, none⟩ = some (.slice ps2 f.se.length cs2) := cell_later hb (by first | with_reducible exact kg8 | go_simp)
  replace zf : w.heap.size < w6.heap.size := World.block_lt_of_cell? _ _ kf0
  replace zg : w.heap.size + 1 < w6.heap.size := World.block_lt_of_cell? _ _ kg0
  replace hb0 : Below w.heap.size w w6 := (by repeat (first | with_reducible exact Below.refl _ _ | with_reducible assumption | with_reducible refine Below.setCell ?_ (by first | omega | (simp <;> omega)) _ | with_reducible refine balloc ?_ _ | with_reducible refine Below.drew ?_ | with_reducible refine bstep ?_ (by with_reducible assumption)))
  clear hb
  go_wp2_with fail
  refine Calls.mono (CS _ (HF.out.below hb0) (HG.out.below hb0)) ?_
  rintro e w7 ⟨rfl, hb⟩
  replace kf0 := cell_later hb kf0
  replace kf1 := cell_later hb kf1
  replace kf2 := cell_later hb kf2
  replace kf3 := cell_later hb kf3
  replace kf4 := cell_later hb kf4
  replace kf5 := cell_later hb kf5
  replace kf6 := cell_later hb kf6
  replace kf7 := cell_later hb kf7
  replace kf8 := cell_later hb kf8
  replace kg0 := cell_later hb kg0
  replace kg1 := cell_later hb kg1
  replace kg2 := cell_later hb kg2
  replace kg3 := cell_later hb kg3
  replace kg4 := cell_later hb kg4
  replace kg5 := cell_later hb kg5
  replace kg6 := cell_later hb kg6
  replace kg7 := cell_later hb kg7
  replace kg8 := cell_later hb kg8
  replace zf : w.heap.size < w7.heap.size := World.block_lt_of_cell? _ _ kf0
  replace zg : w.heap.size + 1 < w7.heap.size := World.block_lt_of_cell? _ _ kg0
  replace hb0 : Below w.heap.size w w7 := bstep hb0 hb
  clear hb
  go_wp2_with fail
  refine Calls.mono (CV1 _ (HF.out.below hb0)) ?_
  rintro e w8 ⟨rfl, hb⟩
  replace kf0 := cell_later hb kf0
  replace kf1 := cell_later hb kf1
  replace kf2 := cell_later hb kf2
  replace kf3 := cell_later hb kf3
  replace kf4 := cell_later hb kf4
  replace kf5 := cell_later hb kf5
  replace kf6 := cell_later hb kf6
  replace kf7 := cell_later hb kf7
  replace kf8 := cell_later hb kf8
  replace kg0 := cell_later hb kg0
  replace kg1 := cell_later hb kg1
  replace kg2 := cell_later hb kg2
  replace kg3 := cell_later hb kg3
  replace kg4 := cell_later hb kg4
  replace kg5 := cell_later hb kg5
  replace kg6 := cell_later hb kg6
  replace kg7 := cell_later hb kg7
  replace kg8 := cell_later hb kg8
  replace zf : w.heap.size < w8.heap.size := World.block_lt_of_cell? _ _ kf0
  replace zg : w.heap.size + 1 < w8.heap.size := World.block_lt_of_cell? _ _ kg0
  replace hb0 : Below w.heap.size w w8 := bstep hb0 hb
  clear hb
  go_wp2_with fail
  refine Calls.mono (CV2 _ (HG.out.below hb0)) ?_
  rintro e w9 ⟨rfl, hb⟩
  replace kf0 := cell_later hb kf0
  replace kf1 := cell_later hb kf1
  replace kf2 := cell_later hb kf2
  replace kf3 := cell_later hb kf3
  replace kf4 := cell_later hb kf4
  replace kf5 := cell_later hb kf5
  replace kf6 := cell_later hb kf6
  replace kf7 := cell_later hb kf7
  replace kf8 := cell_later hb kf8
  replace kg0 := cell_later hb kg0
  replace kg1 := cell_later hb kg1
  replace kg2 := cell_later hb kg2
  replace kg3 := cell_later hb kg3
  replace kg4 := cell_later hb kg4
  replace kg5 := cell_later hb kg5
  replace kg6 := cell_later hb kg6
  replace kg7 := cell_later hb kg7
  replace kg8 := cell_later hb kg8
  replace zf : w.heap.size < w9.heap.size := World.block_lt_of_cell? _ _ kf0
  replace zg : w.heap.size + 1 < w9.heap.size := World.block_lt_of_cell? _ _ kg0
  replace hb0 : Below w.heap.size w w9 := bstep hb0 hb
  clear hb
  go_wp2
  go_ret
  exact ⟨rfl, (by repeat (first | with_reducible exact Below.refl _ _ | with_reducible assumption | with_reducible refine Below.setCell ?_ (by first | omega | (simp <;> omega)) _ | with_reducible refine balloc ?_ _ | with_reducible refine Below.drew ?_ | with_reducible refine bstep ?_ (by with_reducible assumption)))⟩


end Go.Proofs.YtfgajejhjbfhjaaGreat.Fe
