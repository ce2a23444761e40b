/- TidK: Windows. -/
import Derived.Test.YtemogomligbgiaaTidJ
import Derived.Test.YtemogomligbgiaaRows
import Derived.WalkKit
import Derived.WalkSpells
import Derived.WalkLawsBesides
import Derived.Lib.Hide
import Derived.Deep.QuietTactic
import Derived.BigQuiet
import Derived.RegionTactic
import Derived.ChangeAlike
import Derived.BigRegion
import Derived.Deep.RegionHeld3
import Derived.Deep.RegionWith
import Derived.Outline
import Derived.IntWalk
import Derived.Deep.DeepCutAuto
import Derived.LoopTactic
namespace Go.Proofs.Ytemogomligbgiaa.Ti
open Go.RowKit Sp
set_option linter.unusedSimpArgs false
set_option linter.unusedVariables false

def wOk (s p : Int) (l : List Pr) (need : Int) : Bool := vaT s p l && ndB need
def wE (s p : Int) (l : List Pr) (need : Int) : Int := bif wOk s p l need then 0 else 1
def wL (s p : Int) (l : List Pr) (need : Int) : List Pr := bif wOk s p l need then wiT s p l need else []
/-- What Windows leaves. -/
def WinP (w : World) (s p : Int) (l : List Pr) (need : Int) (e : Ending) (W' : World) : Prop := ∃ v, e = .returned (.tuple #[v, (.int .i64 (wE s p l need))]) ∧ Spans W' v (wL s p l need) ∧ Below w.heap.size w W'
set_option maxRecDepth 100000 in
set_option maxHeartbeats 3200000 in
theorem Windows_c (s p : Int) (v : Value) (l : List Pr) (need : Int) (w : World) (hv : Spans w v l) : Calls Try.prog 17 #[.agg #[(.int .i64 s), (.int .i64 p), v], (.int .i64 need)] w (WinP w s p l need) := by
  obtain ⟨⟨pp, cap, rfl, hn, hcap, hp⟩, hl⟩ := id hv
  cases h1 : vaT s p l
  · unfold WinP
    rw [show wE s p l need = 1 by unfold wE wOk; rw [h1]; rfl, show wL s p l need = [] by unfold wL wOk; rw [h1]; rfl]
    clear hp hn
    go_enter Try.func17, Try.ntmps17
    go_wp2_with fail
    refine Calls.mono (valid_c s p _ l _ (hv.below (by repeat (first | with_reducible exact Below.refl _ _ | with_reducible assumption | with_reducible refine Below.setCell ?_ (by first | omega | (simp <;> omega)) _ | with_reducible refine balloc ?_ _ | with_reducible refine Below.drew ?_ | with_reducible refine bstep ?_ (by with_reducible assumption))))) ?_
    rintro e w1 ⟨rfl, hb⟩
    have kt0 : w1.cell? ⟨w.heap.size, 0, none⟩ = some (.int .i64 s) := cell_later hb (by go_simp)
    have kt1 : w1.cell? ⟨w.heap.size, 1, none⟩ = some (.int .i64 p) := cell_later hb (by go_simp)
    have kt2 : w1.cell? ⟨w.heap.size, 2, none⟩ = some (.slice pp l.length cap) := cell_later hb (by go_simp)
    have zt : w.heap.size < w1.heap.size := World.block_lt_of_cell? _ _ kt0
    have zt_w1 := zt
    have hb0 : Below w.heap.size w w1 := (by repeat (first | with_reducible exact Below.refl _ _ | with_reducible assumption | with_reducible refine Below.setCell ?_ (by first | omega | (simp <;> omega)) _ | with_reducible refine balloc ?_ _ | with_reducible refine Below.drew ?_ | with_reducible refine bstep ?_ (by with_reducible assumption)))
    have hs_w1 := hb.size; (try simp only [World.size_alloc, World.size_setCell] at hs_w1)
    clear hb
    rw [h1]
    go_wp2
    go_ret2
    exact ⟨_, rfl, Spans.nil _, (by repeat (first | with_reducible exact Below.refl _ _ | with_reducible assumption | with_reducible refine Below.setCell ?_ (by first | omega | (simp <;> omega)) _ | with_reducible refine balloc ?_ _ | with_reducible refine Below.drew ?_ | with_reducible refine bstep ?_ (by with_reducible assumption)))⟩
  · cases h2 : ndB need
    · unfold WinP
      rw [show wE s p l need = 1 by unfold wE wOk; rw [h1, h2]; rfl, show wL s p l need = [] by unfold wL wOk; rw [h1, h2]; rfl]
      clear hp hn
      go_enter Try.func17, Try.ntmps17
      go_wp2_with fail
      refine Calls.mono (valid_c s p _ l _ (hv.below (by repeat (first | with_reducible exact Below.refl _ _ | with_reducible assumption | with_reducible refine Below.setCell ?_ (by first | omega | (simp <;> omega)) _ | with_reducible refine balloc ?_ _ | with_reducible refine Below.drew ?_ | with_reducible refine bstep ?_ (by with_reducible assumption))))) ?_
      rintro e w1 ⟨rfl, hb⟩
      have kt0 : w1.cell? ⟨w.heap.size, 0, none⟩ = some (.int .i64 s) := cell_later hb (by go_simp)
      have kt1 : w1.cell? ⟨w.heap.size, 1, none⟩ = some (.int .i64 p) := cell_later hb (by go_simp)
      have kt2 : w1.cell? ⟨w.heap.size, 2, none⟩ = some (.slice pp l.length cap) := cell_later hb (by go_simp)
      have zt : w.heap.size < w1.heap.size := World.block_lt_of_cell? _ _ kt0
      have zt_w1 := zt
      have hb0 : Below w.heap.size w w1 := (by repeat (first | with_reducible exact Below.refl _ _ | with_reducible assumption | with_reducible refine Below.setCell ?_ (by first | omega | (simp <;> omega)) _ | with_reducible refine balloc ?_ _ | with_reducible refine Below.drew ?_ | with_reducible refine bstep ?_ (by with_reducible assumption)))
      have hs_w1 := hb.size; (try simp only [World.size_alloc, World.size_setCell] at hs_w1)
      clear hb
      rw [h1]
      go_wp2_with fail
      refine Calls.mono (isNeed_c need _) ?_
      rintro e wx ⟨rfl, rfl⟩
      rw [h2]
      go_wp2
      go_ret2
      exact ⟨_, rfl, Spans.nil _, (by repeat (first | with_reducible exact Below.refl _ _ | with_reducible assumption | with_reducible refine Below.setCell ?_ (by first | omega | (simp <;> omega)) _ | with_reducible refine balloc ?_ _ | with_reducible refine Below.drew ?_ | with_reducible refine bstep ?_ (by with_reducible assumption)))⟩
    · obtain ⟨⟨vs1, vs2⟩, ⟨vp1, vp2⟩, ⟨vn1, vn2⟩, ⟨vl1, vl2⟩, vall⟩ := vaT_iff.1 h1
      obtain ⟨b, off, rfl, hr⟩ := hp (by omega)
      have hbl := hr.lt (by omega)
      clear hp hn vall
      unfold WinP
      rw [show wE s p l need = 0 by unfold wE wOk; rw [h1, h2]; rfl, show wL s p l need = wiT s p l need by unfold wL wOk; rw [h1, h2]; rfl]
      go_enter Try.func17, Try.ntmps17
      go_wp2_with fail
      refine Calls.mono (valid_c s p _ l _ (hv.below (by repeat (first | with_reducible exact Below.refl _ _ | with_reducible assumption | with_reducible refine Below.setCell ?_ (by first | omega | (simp <;> omega)) _ | with_reducible refine balloc ?_ _ | with_reducible refine Below.drew ?_ | with_reducible refine bstep ?_ (by with_reducible assumption))))) ?_
      rintro e w1 ⟨rfl, hb⟩
      have kt0 : w1.cell? ⟨w.heap.size, 0, none⟩ = some (.int .i64 s) := cell_later hb (by go_simp)
      have kt1 : w1.cell? ⟨w.heap.size, 1, none⟩ = some (.int .i64 p) := cell_later hb (by go_simp)
      have kt2 : w1.cell? ⟨w.heap.size, 2, none⟩ = some (.slice (some ⟨b, off, none⟩) l.length cap) := cell_later hb (by go_simp)
      have zt : w.heap.size < w1.heap.size := World.block_lt_of_cell? _ _ kt0
      have zt_w1 := zt
      have hb0 : Below w.heap.size w w1 := (by repeat (first | with_reducible exact Below.refl _ _ | with_reducible assumption | with_reducible refine Below.setCell ?_ (by first | omega | (simp <;> omega)) _ | with_reducible refine balloc ?_ _ | with_reducible refine Below.drew ?_ | with_reducible refine bstep ?_ (by with_reducible assumption)))
      have hs_w1 := hb.size; (try simp only [World.size_alloc, World.size_setCell] at hs_w1)
      clear hb
      rw [h1]
      go_wp2_with fail
      refine Calls.mono (isNeed_c need _) ?_
      rintro e wx ⟨rfl, rfl⟩
      rw [h2]
      go_wp2_with fail
      refine Calls.mono (windows_c s p need b off cap l _ h1 (hr.below hbl hb0)) ?_
      rintro e w2 ⟨v2, rfl, hsp, hb2⟩
      have hb3 : Below w.heap.size w w2 := bstep hb0 hb2
      clear hb2 hb0
      go_wp2
      go_ret2
      exact ⟨_, rfl, hsp, hb3⟩


end Go.Proofs.Ytemogomligbgiaa.Ti
