/- FeaYs: equal but for a field. -/
import Derived.Test.YtfgajejhjbfhjaaGreatGm
import Derived.Test.YtfgajejhjbfhjaaGreatGn
import Derived.Test.YtfgajejhjbfhjaaGreatFeaHd
import Derived.Test.YtfgajejhjbfhjaaGreatRows
import Derived.WalkKit
import Derived.WalkSpells
import Derived.WalkLawsBesides
import Derived.Lib.Hide
import Derived.Deep.QuietTactic
import Derived.BigQuiet
import Derived.RegionTactic
import Derived.ChangeAlike
import Derived.BigRegion
import Derived.Deep.RegionHeld3
import Derived.Deep.RegionWith
import Derived.Outline
import Derived.IntWalk
import Derived.Deep.DeepCutAuto
namespace Go.Proofs.YtfgajejhjbfhjaaGreat.Fe
open Go.RowKit
set_option linter.unusedSimpArgs false
set_option linter.unusedVariables false

theorem cs_some {w : World} {p q : Addr} {x : Value} (h : ∃ u, w.cell? q = some u) : ∃ u, (w.setCell p x).cell? q = some u := by
  obtain ⟨u, h⟩ := h
  by_cases e : p = q
  · subst e; exact ⟨x, World.cell?_setCell_same _ _ _ h⟩
  · exact ⟨u, (World.cell?_setCell_other _ _ _ _ e).trans h⟩
theorem drew_cell (w : World) (a : Addr) : w.drew.cell? a = w.cell? a := rfl
theorem set_ex {w : World} {a : Addr} {v : Value} (h : ∃ u, w.cell? a = some u) : (w.setCell a v).cell? a = some v := by
  obtain ⟨u, h⟩ := h
  exact World.cell?_setCell_same _ _ _ h
theorem sa_self (f : Fe) : saF f f = true := saF_iff.2 rfl
theorem fev_id {w : World} {f : Fe} {pa ps : Option Addr} {ca cs : Nat} {a b c : Int} (h : FeV w (.agg #[(.int .i64 (f.id)), (.int .i64 (f.ki)), (.int .i64 (f.x)), (.int .i64 (f.y)), (.int .i64 (f.ra)), .slice pa f.ar.length ca, (.int .i64 (f.de)), (.int .i64 (f.sy)), .slice ps f.se.length cs]) f) :
    FeV w (.agg #[(.int .i64 a), (.int .i64 (f.ki)), (.int .i64 (f.x)), (.int .i64 (f.y)), (.int .i64 (f.ra)), .slice pa f.ar.length ca, (.int .i64 b), (.int .i64 c), .slice ps f.se.length cs]) ⟨a, f.ki, f.x, f.y, f.ra, f.ar, b, c, f.se⟩ := by
  obtain ⟨⟨pa', ps', ca', cs', e, ha', hs'⟩, hx, hy⟩ := h
  simp only [Value.agg.injEq, Array.mk.injEq, List.cons.injEq, Value.slice.injEq, true_and, and_true] at e
  obtain ⟨⟨rfl, rfl⟩, rfl, rfl⟩ := e
  exact ⟨⟨pa, ps, ca, cs, rfl, ha', hs'⟩, hx, hy⟩
theorem sa_id (f : Fe) (n : Int) : saF f ⟨n, f.ki, f.x, f.y, f.ra, f.ar, f.de, f.sy, f.se⟩ = (f.id == n) := by simp [saF]; rfl
theorem sa_de (f : Fe) (n : Int) : saF f ⟨f.id, f.ki, f.x, f.y, f.ra, f.ar, n, f.sy, f.se⟩ = (f.de == n) := by simp [saF]; rfl
theorem sa_sy (f : Fe) (n : Int) : saF f ⟨f.id, f.ki, f.x, f.y, f.ra, f.ar, f.de, n, f.se⟩ = (f.sy == n) := by simp [saF]; rfl

end Go.Proofs.YtfgajejhjbfhjaaGreat.Fe
