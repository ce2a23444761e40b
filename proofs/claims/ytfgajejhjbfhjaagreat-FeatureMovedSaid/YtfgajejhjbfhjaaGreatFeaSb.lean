/- FeaSb: shifted: polygons. -/
import Derived.Test.YtfgajejhjbfhjaaGreatFeaSa
import Derived.Test.YtfgajejhjbfhjaaGreatFeaMw
import Derived.Test.YtfgajejhjbfhjaaGreatRows
import Derived.WalkKit
import Derived.WalkSpells
import Derived.WalkLawsBesides
import Derived.Lib.Hide
import Derived.Deep.QuietTactic
import Derived.BigQuiet
import Derived.RegionTactic
import Derived.ChangeAlike
import Derived.BigRegion
import Derived.Deep.RegionHeld3
import Derived.Deep.RegionWith
import Derived.Outline
import Derived.IntWalk
import Derived.Deep.DeepCutAuto
import Derived.LoopTactic
import Derived.OwnWalk
import Derived.Laws.OwnMore
import Derived.Laws.AppendOwnNone
namespace Go.Proofs.YtfgajejhjbfhjaaGreat.Fe
open Go.RowKit
set_option linter.unusedSimpArgs false
set_option linter.unusedVariables false

theorem rvalid_c (a1 a2 : Int) (w : World) : Calls Tryz.prog 30 #[(.agg #[.int .i64 a1, .int .i64 a2])] w (Ret w (.bool (okB a1 a2))) := by
  go_enter Tryz.func30, Tryz.ntmps30
  go_wp2
  all_goals
    go_ret
    refine ret_bool ?_ (by repeat (first | with_reducible exact Below.refl _ _ | with_reducible assumption | with_reducible refine Below.setCell ?_ (by first | omega | (simp <;> omega)) _ | with_reducible refine balloc ?_ _ | with_reducible refine Below.drew ?_ | with_reducible refine bstep ?_ (by with_reducible assumption)))
    rw [okB_iff, ok]
    simp <;> omega
theorem own_other {W : World} {base g n cap : Nat} {e : TypeId} {size : Nat} {xs : List Value} (h : W.ownsRow base e size (.slice (some ⟨g, 0, none⟩) n cap) n xs) {b o : Nat} (u : Value) (hb : b ≠ g) :
    (W.setCell ⟨b, o, none⟩ u).ownsRow base e size (.slice (some ⟨g, 0, none⟩) n cap) n xs :=
  h.kept (row := some b) ⟨rfl, rfl, rfl, by simp [World.setCell], fun k _ hk => Below.heap_setCell _ _ _ k (fun e => hk (by rw [e]))⟩ (.inr (fun e => hb (by simpa [Value.ownBlock] using e.symm)))
/-- What shifted leaves. -/
def ShfPost (f : Fe) (v1 v2 : Int) (w : World) (e : Ending) (w' : World) : Prop :=
  ∃ (g : Fe) (b : Bool) (pa ps : Option Addr) (ca cs : Nat), e = .returned (.tuple #[.agg #[(.int .i64 (g.id)), (.int .i64 (g.ki)), (.int .i64 (g.x)), (.int .i64 (g.y)), (.int .i64 (g.ra)), .slice pa g.ar.length ca, (.int .i64 (g.de)), (.int .i64 (g.sy)), .slice ps g.se.length cs], (.bool b)])
    ∧ FeV w' (.agg #[(.int .i64 (g.id)), (.int .i64 (g.ki)), (.int .i64 (g.x)), (.int .i64 (g.y)), (.int .i64 (g.ra)), .slice pa g.ar.length ca, (.int .i64 (g.de)), (.int .i64 (g.sy)), .slice ps g.se.length cs]) g
    ∧ (b = true → g = mvF v1 v2 f ∧ vaF g = true) ∧ Below w.heap.size w w'

set_option maxRecDepth 100000 in
set_option maxHeartbeats 12800000 in
theorem shiftP_c (v : Value) (f : Fe) (p1 p2 : Int) (w : World) (hv : FeV w v f) (hva0 : vaF f = true) (hk : f.ki = 3 ∨ f.ki = 6) (hp : ok p1 p2) : Calls Tryz.prog 31 #[v, (.agg #[.int .i64 p1, .int .i64 p2])] w (ShfPost f p1 p2 w) := by
  obtain ⟨⟨pa, ps, ca, cs, rfl, ha, hs⟩, hx, hy⟩ := hv
  have HF := Lib.hid (show FeV w (.agg #[(.int .i64 (f.id)), (.int .i64 (f.ki)), (.int .i64 (f.x)), (.int .i64 (f.y)), (.int .i64 (f.ra)), .slice pa f.ar.length ca, (.int .i64 (f.de)), (.int .i64 (f.sy)), .slice ps f.se.length cs]) f from ⟨⟨_, _, _, _, rfl, ha, hs⟩, hx, hy⟩)
  have hva := hva0
  have vl : Po.vaL f.ar = true := by
    have h := (va_parts hva).2.2
    unfold suF at h
    rw [if_pos hk] at h
    simp only [Bool.and_eq_true] at h
    exact h.1.1.1.1
  obtain ⟨a3, a24, aok, -⟩ := Po.vaL_iff.1 vl
  obtain ⟨b, off, cap, e0, hr⟩ := ha.row (by omega)
  cases e0
  have hbl := hr.lt (by omega)
  have HR := Lib.hid hr
  have HA := Lib.hid ha
  have HS := Lib.hid hs
  have HXY := Lib.hid (And.intro hx hy)
  have HVA := Lib.hid hva
  have HVL := Lib.hid vl
  obtain ⟨i0, hi, hz0, hz1, hz2⟩ := info_parts info_pt
  have HI := Lib.hid hi
  have HFL := Lib.hid (flatP_length f.ar)
  have HW0 := Lib.hid (rowP_news hr)
  have HF1 := Lib.hid (flatP_one f.ar)
  have HAO := Lib.hid aok
  unfold ok at hp
  obtain ⟨hp1, hp2, hp3, hp4⟩ := hp
  clear ha hs hx hy hva hva0 vl hr hi aok
  have hcase : ((f.ki == 3) = true) ∨ (((f.ki == 3) = false) ∧ (f.ki == 6) = true) := by
    rcases Decidable.em (f.ki = 3) with h | h
    · exact .inl (by rw [beq_iff_eq]; exact h)
    · exact .inr ⟨by rw [beq_eq_false_iff_ne]; exact h, by rw [beq_iff_eq]; omega⟩
  have HK := Lib.hid hk
  clear hk
  have how := (World.ownsRow_lit (base := w.heap.size + 1 + 1 + 1) (e := 23) (size := 2) (((w.alloc (.cells #[(.int .i64 (f.id)), (.int .i64 (f.ki)), (.int .i64 (f.x)), (.int .i64 (f.y)), (.int .i64 (f.ra)), .slice (some ⟨b, off, none⟩) f.ar.length ca, (.int .i64 (f.de)), (.int .i64 (f.sy)), .slice ps f.se.length cs] 27)).alloc (.cells #[(.int .i64 p1), (.int .i64 p2)] 23)).alloc (.cells #[(.int .i64 0), (.int .i64 0), (.int .i64 0), (.int .i64 0), (.int .i64 0), .slice none 0 0, (.int .i64 0), (.int .i64 0), .slice none 0 0] 27)) #[] 0 (by simp) (by unfold maxLen; omega) rfl)
  simp only [World.size_alloc] at how
  have HOW := Lib.hid how
  clear how
  have HB4 := Lib.hid (show w.heap.size + 1 + 1 + 1 ≤ ((((w.alloc (.cells #[(.int .i64 (f.id)), (.int .i64 (f.ki)), (.int .i64 (f.x)), (.int .i64 (f.y)), (.int .i64 (f.ra)), .slice (some ⟨b, off, none⟩) f.ar.length ca, (.int .i64 (f.de)), (.int .i64 (f.sy)), .slice ps f.se.length cs] 27)).alloc (.cells #[(.int .i64 p1), (.int .i64 p2)] 23)).alloc (.cells #[(.int .i64 0), (.int .i64 0), (.int .i64 0), (.int .i64 0), (.int .i64 0), .slice none 0 0, (.int .i64 0), (.int .i64 0), .slice none 0 0] 27)).alloc (.cells #[] 23)).heap.size by simp)
  rcases hcase with hk | ⟨hk0, hk⟩
  all_goals
    go_enter Tryz.func31, Tryz.ntmps31
    go_wp2_with (at_builtin; go_must (refine wpList_append_own _ rfl _ _ 24 rfl (w.heap.size + 1 + 1 + 1) 23 i0 (.agg #[(.int .i64 0), (.int .i64 0)]) 2 16 Tryz.underlying24 HI.out hz0 hz1 hz2 rfl (by decide) _ _ _ rfl HOW.out ⟨b, off, none⟩ f.ar.length ca (flatP f.ar) rfl HFL.out (fun j u h => cell_al _ (cell_al _ (cell_al _ (cell_al _ (HW0.out j u h))))) HF1.out (by unfold maxLen; omega) (by omega) HB4.out ?_); intro v9 wm hown hgrow _)
    have hBm : Below (w.heap.size + 1 + 1 + 1) ((w.alloc (.cells #[(.int .i64 (f.id)), (.int .i64 (f.ki)), (.int .i64 (f.x)), (.int .i64 (f.y)), (.int .i64 (f.ra)), .slice (some ⟨b, off, none⟩) f.ar.length ca, (.int .i64 (f.de)), (.int .i64 (f.sy)), .slice ps f.se.length cs] 27)).alloc (.cells #[(.int .i64 p1), (.int .i64 p2)] 23) |>.alloc (.cells #[(.int .i64 0), (.int .i64 0), (.int .i64 0), (.int .i64 0), (.int .i64 0), .slice none 0 0, (.int .i64 0), (.int .i64 0), .slice none 0 0] 27)) wm := below_app2 ((Below.refl (w.heap.size + 1 + 1 + 1) _).alloc (by simp) _) HOW.out HB4.out hgrow
    have hown2 : wm.ownsRow (w.heap.size + 1 + 1 + 1) 23 2 v9 f.ar.length (flatP f.ar) := by simpa using hown
    clear hown hgrow
    obtain ⟨q9, c9, rfl, hc9, hq9⟩ := own_form hown2
    obtain ⟨A9, rfl⟩ : ∃ a, q9 = some a := by
      cases q9 with
      | none => have := hq9 rfl; omega
      | some a => exact ⟨a, rfl⟩
    obtain ⟨g9, o9, s9⟩ := A9
    obtain ⟨rfl, rfl⟩ : o9 = 0 ∧ s9 = none := by
      rcases hown2.2 with ⟨h, _⟩ | ⟨g, cap, cur, h, _⟩
      · cases h
      · cases h; exact ⟨rfl, rfl⟩
    have hg9 := (hown2.lt g9 rfl)
    obtain ⟨hg1, hg2⟩ := hg9
    have hBw : Below w.heap.size w wm := (show Below w.heap.size w ((w.alloc (.cells #[(.int .i64 (f.id)), (.int .i64 (f.ki)), (.int .i64 (f.x)), (.int .i64 (f.y)), (.int .i64 (f.ra)), .slice (some ⟨b, off, none⟩) f.ar.length ca, (.int .i64 (f.de)), (.int .i64 (f.sy)), .slice ps f.se.length cs] 27)).alloc (.cells #[(.int .i64 p1), (.int .i64 p2)] 23) |>.alloc (.cells #[(.int .i64 0), (.int .i64 0), (.int .i64 0), (.int .i64 0), (.int .i64 0), .slice none 0 0, (.int .i64 0), (.int .i64 0), .slice none 0 0] 27)) from (by repeat (first | with_reducible exact Below.refl _ _ | with_reducible assumption | with_reducible refine Below.setCell ?_ (by first | omega | (simp <;> omega)) _ | with_reducible refine balloc ?_ _ | with_reducible refine Below.drew ?_ | with_reducible refine bstep ?_ (by with_reducible assumption)))).trans (hBm.mono (by omega))
    have kf0 : wm.cell? ⟨w.heap.size, 0, none⟩ = some (.int .i64 (f.id)) := (hBm.cell (p := ⟨w.heap.size, 0, none⟩) (by simp; omega)).trans (by go_simp)
    have kf1 : wm.cell? ⟨w.heap.size, 1, none⟩ = some (.int .i64 (f.ki)) := (hBm.cell (p := ⟨w.heap.size, 1, none⟩) (by simp; omega)).trans (by go_simp)
    have kf2 : wm.cell? ⟨w.heap.size, 2, none⟩ = some (.int .i64 (f.x)) := (hBm.cell (p := ⟨w.heap.size, 2, none⟩) (by simp; omega)).trans (by go_simp)
    have kf3 : wm.cell? ⟨w.heap.size, 3, none⟩ = some (.int .i64 (f.y)) := (hBm.cell (p := ⟨w.heap.size, 3, none⟩) (by simp; omega)).trans (by go_simp)
    have kf4 : wm.cell? ⟨w.heap.size, 4, none⟩ = some (.int .i64 (f.ra)) := (hBm.cell (p := ⟨w.heap.size, 4, none⟩) (by simp; omega)).trans (by go_simp)
    have kf5 : wm.cell? ⟨w.heap.size, 5, none⟩ = some (.slice (some ⟨b, off, none⟩) f.ar.length ca) := (hBm.cell (p := ⟨w.heap.size, 5, none⟩) (by simp; omega)).trans (by go_simp)
    have kf6 : wm.cell? ⟨w.heap.size, 6, none⟩ = some (.int .i64 (f.de)) := (hBm.cell (p := ⟨w.heap.size, 6, none⟩) (by simp; omega)).trans (by go_simp)
    have kf7 : wm.cell? ⟨w.heap.size, 7, none⟩ = some (.int .i64 (f.sy)) := (hBm.cell (p := ⟨w.heap.size, 7, none⟩) (by simp; omega)).trans (by go_simp)
    have kf8 : wm.cell? ⟨w.heap.size, 8, none⟩ = some (.slice ps f.se.length cs) := (hBm.cell (p := ⟨w.heap.size, 8, none⟩) (by simp; omega)).trans (by go_simp)
    have jf5 : wm.frozen? ⟨w.heap.size, 5, none⟩ = false := (hBm.frozen (p := ⟨w.heap.size, 5, none⟩) (by simp; omega)).trans (by go_simp)
    have kv0 : wm.cell? ⟨w.heap.size + 1, 0, none⟩ = some (.int .i64 p1) := (hBm.cell (p := ⟨w.heap.size + 1, 0, none⟩) (by simp)).trans (by go_simp)
    have kv1 : wm.cell? ⟨w.heap.size + 1, 1, none⟩ = some (.int .i64 p2) := (hBm.cell (p := ⟨w.heap.size + 1, 1, none⟩) (by simp)).trans (by go_simp)
    have kr0 : wm.cell? ⟨w.heap.size + 1 + 1, 0, none⟩ = some (.int .i64 0) := (hBm.cell (p := ⟨w.heap.size + 1 + 1, 0, none⟩) (by simp)).trans (by go_simp)
    have kr1 : wm.cell? ⟨w.heap.size + 1 + 1, 1, none⟩ = some (.int .i64 0) := (hBm.cell (p := ⟨w.heap.size + 1 + 1, 1, none⟩) (by simp)).trans (by go_simp)
    have kr2 : wm.cell? ⟨w.heap.size + 1 + 1, 2, none⟩ = some (.int .i64 0) := (hBm.cell (p := ⟨w.heap.size + 1 + 1, 2, none⟩) (by simp)).trans (by go_simp)
    have kr3 : wm.cell? ⟨w.heap.size + 1 + 1, 3, none⟩ = some (.int .i64 0) := (hBm.cell (p := ⟨w.heap.size + 1 + 1, 3, none⟩) (by simp)).trans (by go_simp)
    have kr4 : wm.cell? ⟨w.heap.size + 1 + 1, 4, none⟩ = some (.int .i64 0) := (hBm.cell (p := ⟨w.heap.size + 1 + 1, 4, none⟩) (by simp)).trans (by go_simp)
    have kr5 : wm.cell? ⟨w.heap.size + 1 + 1, 5, none⟩ = some (.slice none 0 0) := (hBm.cell (p := ⟨w.heap.size + 1 + 1, 5, none⟩) (by simp)).trans (by go_simp)
    have kr6 : wm.cell? ⟨w.heap.size + 1 + 1, 6, none⟩ = some (.int .i64 0) := (hBm.cell (p := ⟨w.heap.size + 1 + 1, 6, none⟩) (by simp)).trans (by go_simp)
    have kr7 : wm.cell? ⟨w.heap.size + 1 + 1, 7, none⟩ = some (.int .i64 0) := (hBm.cell (p := ⟨w.heap.size + 1 + 1, 7, none⟩) (by simp)).trans (by go_simp)
    have kr8 : wm.cell? ⟨w.heap.size + 1 + 1, 8, none⟩ = some (.slice none 0 0) := (hBm.cell (p := ⟨w.heap.size + 1 + 1, 8, none⟩) (by simp)).trans (by go_simp)
    have jr0 : wm.frozen? ⟨w.heap.size + 1 + 1, 0, none⟩ = false := (hBm.frozen (p := ⟨w.heap.size + 1 + 1, 0, none⟩) (by simp)).trans (by go_simp)
    have jr1 : wm.frozen? ⟨w.heap.size + 1 + 1, 1, none⟩ = false := (hBm.frozen (p := ⟨w.heap.size + 1 + 1, 1, none⟩) (by simp)).trans (by go_simp)
    have jr2 : wm.frozen? ⟨w.heap.size + 1 + 1, 2, none⟩ = false := (hBm.frozen (p := ⟨w.heap.size + 1 + 1, 2, none⟩) (by simp)).trans (by go_simp)
    have jr3 : wm.frozen? ⟨w.heap.size + 1 + 1, 3, none⟩ = false := (hBm.frozen (p := ⟨w.heap.size + 1 + 1, 3, none⟩) (by simp)).trans (by go_simp)
    have jr4 : wm.frozen? ⟨w.heap.size + 1 + 1, 4, none⟩ = false := (hBm.frozen (p := ⟨w.heap.size + 1 + 1, 4, none⟩) (by simp)).trans (by go_simp)
    have jr5 : wm.frozen? ⟨w.heap.size + 1 + 1, 5, none⟩ = false := (hBm.frozen (p := ⟨w.heap.size + 1 + 1, 5, none⟩) (by simp)).trans (by go_simp)
    have jr6 : wm.frozen? ⟨w.heap.size + 1 + 1, 6, none⟩ = false := (hBm.frozen (p := ⟨w.heap.size + 1 + 1, 6, none⟩) (by simp)).trans (by go_simp)
    have jr7 : wm.frozen? ⟨w.heap.size + 1 + 1, 7, none⟩ = false := (hBm.frozen (p := ⟨w.heap.size + 1 + 1, 7, none⟩) (by simp)).trans (by go_simp)
    have jr8 : wm.frozen? ⟨w.heap.size + 1 + 1, 8, none⟩ = false := (hBm.frozen (p := ⟨w.heap.size + 1 + 1, 8, none⟩) (by simp)).trans (by go_simp)
    have HBW := Lib.hid hBw
    have HO := Lib.hid hown2
    clear hBm hBw hown2
    go_wp2
    go_loopw [7] (fun i wr => ∃ k : Nat, i = (.int .i64 k) ∧ k ≤ f.ar.length ∧ Hid (∀ j, j < k → okB ((Po.gp f.ar j).1 + p1) ((Po.gp f.ar j).2 + p2) = true) ∧ Hid (wr.ownsRow (w.heap.size + 1 + 1 + 1) 23 2 (.slice (some ⟨g9, 0, none⟩) f.ar.length c9) f.ar.length (flatP (curM p1 p2 f.ar k))) ∧ Below (w.heap.size + 1 + 1 + 1) wm wr ∧ g9 < wr.heap.size) (fun i _ => f.ar.length - (intOf i).toNat)
    case atStart => exact ⟨0, rfl, by omega, Lib.hid (fun j hj => by omega), Lib.hid (by rw [curM_zero]; exact HO.out), Below.refl _ _, hg2⟩
    case round =>
      obtain ⟨k, rfl, hk, HJ, HOk, hbel, hgr⟩ := hrel
      have hszr : w.heap.size + 1 + 1 + 1 ≤ wr.heap.size := by omega
      have qf0 := (hbel.cell (p := ⟨w.heap.size, 0, none⟩) (by simp; omega)).trans kf0
      have qf1 := (hbel.cell (p := ⟨w.heap.size, 1, none⟩) (by simp; omega)).trans kf1
      have qf2 := (hbel.cell (p := ⟨w.heap.size, 2, none⟩) (by simp; omega)).trans kf2
      have qf3 := (hbel.cell (p := ⟨w.heap.size, 3, none⟩) (by simp; omega)).trans kf3
      have qf4 := (hbel.cell (p := ⟨w.heap.size, 4, none⟩) (by simp; omega)).trans kf4
      have qf5 := (hbel.cell (p := ⟨w.heap.size, 5, none⟩) (by simp; omega)).trans kf5
      have qf6 := (hbel.cell (p := ⟨w.heap.size, 6, none⟩) (by simp; omega)).trans kf6
      have qf7 := (hbel.cell (p := ⟨w.heap.size, 7, none⟩) (by simp; omega)).trans kf7
      have qf8 := (hbel.cell (p := ⟨w.heap.size, 8, none⟩) (by simp; omega)).trans kf8
      have qj5 := (hbel.frozen (p := ⟨w.heap.size, 5, none⟩) (by simp; omega)).trans jf5
      have qv0 := (hbel.cell (p := ⟨w.heap.size + 1, 0, none⟩) (by simp)).trans kv0
      have qv1 := (hbel.cell (p := ⟨w.heap.size + 1, 1, none⟩) (by simp)).trans kv1
      have qr0 := (hbel.cell (p := ⟨w.heap.size + 1 + 1, 0, none⟩) (by simp)).trans kr0
      have qr1 := (hbel.cell (p := ⟨w.heap.size + 1 + 1, 1, none⟩) (by simp)).trans kr1
      have qr2 := (hbel.cell (p := ⟨w.heap.size + 1 + 1, 2, none⟩) (by simp)).trans kr2
      have qr3 := (hbel.cell (p := ⟨w.heap.size + 1 + 1, 3, none⟩) (by simp)).trans kr3
      have qr4 := (hbel.cell (p := ⟨w.heap.size + 1 + 1, 4, none⟩) (by simp)).trans kr4
      have qr5 := (hbel.cell (p := ⟨w.heap.size + 1 + 1, 5, none⟩) (by simp)).trans kr5
      have qr6 := (hbel.cell (p := ⟨w.heap.size + 1 + 1, 6, none⟩) (by simp)).trans kr6
      have qr7 := (hbel.cell (p := ⟨w.heap.size + 1 + 1, 7, none⟩) (by simp)).trans kr7
      have qr8 := (hbel.cell (p := ⟨w.heap.size + 1 + 1, 8, none⟩) (by simp)).trans kr8
      have qs0 := (hbel.frozen (p := ⟨w.heap.size + 1 + 1, 0, none⟩) (by simp)).trans jr0
      have qs1 := (hbel.frozen (p := ⟨w.heap.size + 1 + 1, 1, none⟩) (by simp)).trans jr1
      have qs2 := (hbel.frozen (p := ⟨w.heap.size + 1 + 1, 2, none⟩) (by simp)).trans jr2
      have qs3 := (hbel.frozen (p := ⟨w.heap.size + 1 + 1, 3, none⟩) (by simp)).trans jr3
      have qs4 := (hbel.frozen (p := ⟨w.heap.size + 1 + 1, 4, none⟩) (by simp)).trans jr4
      have qs5 := (hbel.frozen (p := ⟨w.heap.size + 1 + 1, 5, none⟩) (by simp)).trans jr5
      have qs6 := (hbel.frozen (p := ⟨w.heap.size + 1 + 1, 6, none⟩) (by simp)).trans jr6
      have qs7 := (hbel.frozen (p := ⟨w.heap.size + 1 + 1, 7, none⟩) (by simp)).trans jr7
      have qs8 := (hbel.frozen (p := ⟨w.heap.size + 1 + 1, 8, none⟩) (by simp)).trans jr8
      by_cases hlt : k < f.ar.length
      · have hcl := curM_len p1 p2 f.ar k
        have o0 := HOk.out.cellAt (k * 2) (by omega)
        have o1 := HOk.out.cellAt (k * 2 + 1) (by omega)
        obtain ⟨e0, e1⟩ := flatP_get (curM p1 p2 f.ar k) k (by omega)
        rw [e0, curM_get p1 p2 hlt] at o0
        rw [e1, curM_get p1 p2 hlt] at o1
        have f0 := HOk.out.frozenAt (k * 2)
        have f1 := HOk.out.frozenAt (k * 2 + 1)
        have hst := ((HOk.out.stored (k * 2) (.int .i64 ((Po.gp f.ar k).1 + p1))).1.stored (k * 2 + 1) (.int .i64 ((Po.gp f.ar k).2 + p2))).1
        have hfs := flatP_set (curM p1 p2 f.ar k) k (mv p1 p2 (Po.gp f.ar k))
        rw [curM_set p1 p2 hlt] at hfs
        have HST := Lib.hid (show ((wr.setCell ⟨g9, k * 2, none⟩ (.int .i64 ((Po.gp f.ar k).1 + p1))).setCell ⟨g9, k * 2 + 1, none⟩ (.int .i64 ((Po.gp f.ar k).2 + p2))).ownsRow (w.heap.size + 1 + 1 + 1) 23 2 (.slice (some ⟨g9, 0, none⟩) f.ar.length c9) f.ar.length (flatP (curM p1 p2 f.ar (k + 1))) from by rw [hfs]; exact hst)
        clear hfs
        have hokk := Po.okL_gp HAO.out k
        unfold Po.okP ok at hokk
        obtain ⟨y1, y2, y3, y4⟩ := hokk
        clear hst e0 e1 hcl
        obtain ⟨x1, hx1⟩ : ∃ x, (Po.gp f.ar k).1 = x := ⟨_, rfl⟩
        obtain ⟨x2, hx2⟩ : ∃ x, (Po.gp f.ar k).2 = x := ⟨_, rfl⟩
        rw [hx1] at o0 y1 y2 HST
        rw [hx2] at o1 y3 y4 HST
        have HX1 := Lib.hid hx1
        have HX2 := Lib.hid hx2
        clear hx1 hx2
        have ww1 : wrap64 (x1 + p1) = x1 + p1 := w64 (by omega)
        have ww2 : wrap64 (x2 + p2) = x2 + p2 := w64 (by omega)
        have ww3 : IntKind.i64.wrap (x1 + p1) = x1 + p1 := IntWalk.i64_in _ (by omega)
        have ww4 : IntKind.i64.wrap (x2 + p2) = x2 + p2 := IntWalk.i64_in _ (by omega)
        have hgn0 : g9 ≠ w.heap.size := by omega
        have hgn1 : g9 ≠ w.heap.size + 1 := by omega
        have hgn2 : g9 ≠ w.heap.size + 1 + 1 := by omega
        have HB := Lib.hid hbel
        clear hbel
        go_wp2_with fail
        go_region
        have B2 := ((HB.out.setCell (p := ⟨g9, k * 2, none⟩) hg1 (.int .i64 (x1 + p1))).setCell (p := ⟨g9, k * 2 + 1, none⟩) hg1 (.int .i64 (x2 + p2))).drew
        have n0 : (((wr.setCell ⟨g9, k * 2, none⟩ (.int .i64 (x1 + p1))).setCell ⟨g9, k * 2 + 1, none⟩ (.int .i64 (x2 + p2))).drew).cell? ⟨g9, k * 2, none⟩ = some (.int .i64 (x1 + p1)) := by go_simp
        have n1 : (((wr.setCell ⟨g9, k * 2, none⟩ (.int .i64 (x1 + p1))).setCell ⟨g9, k * 2 + 1, none⟩ (.int .i64 (x2 + p2))).drew).cell? ⟨g9, k * 2 + 1, none⟩ = some (.int .i64 (x2 + p2)) := by go_simp
        have own2 := HST.out.drew
        have hs2 : g9 < (((wr.setCell ⟨g9, k * 2, none⟩ (.int .i64 (x1 + p1))).setCell ⟨g9, k * 2 + 1, none⟩ (.int .i64 (x2 + p2))).drew).heap.size := by simp [World.drew, World.setCell]; omega
        clear HST o0 o1 f0 f1 qj5 qv0 qv1 qf0 qr0 qs0 qf1 qr1 qs1 qf2 qr2 qs2 qf3 qr3 qs3 qf4 qr4 qs4 qf5 qr5 qs5 qf6 qr6 qs6 qf7 qr7 qs7 qf8 qr8 qs8
        generalize ((wr.setCell ⟨g9, k * 2, none⟩ (.int .i64 (x1 + p1))).setCell ⟨g9, k * 2 + 1, none⟩ (.int .i64 (x2 + p2))).drew = W3 at *
        have OW := Lib.hid own2
        have HB2 := Lib.hid B2
        clear own2 B2
        go_wp2_with fail
        refine Calls.mono (rvalid_c _ _ _) ?_
        rintro e W4 ⟨rfl, hb4⟩
        have B4 : Below (w.heap.size + 1 + 1 + 1) wm W4 := HB2.out.trans (hb4.mono (by omega))
        have own4 := own_below OW.out hb4
        have hs4 : g9 < W4.heap.size := by have := hb4.size; omega
        have OW4 := Lib.hid own4
        have HB4 := Lib.hid B4
        clear own4 hb4 n0 n1
        cases hv : okB (x1 + p1) (x2 + p2)
        · have HV := Lib.hid hv
          clear hv
          have qf0 := (B4.cell (p := ⟨w.heap.size, 0, none⟩) (by simp; omega)).trans kf0
          have qf1 := (B4.cell (p := ⟨w.heap.size, 1, none⟩) (by simp; omega)).trans kf1
          have qf2 := (B4.cell (p := ⟨w.heap.size, 2, none⟩) (by simp; omega)).trans kf2
          have qf3 := (B4.cell (p := ⟨w.heap.size, 3, none⟩) (by simp; omega)).trans kf3
          have qf4 := (B4.cell (p := ⟨w.heap.size, 4, none⟩) (by simp; omega)).trans kf4
          have qf5 := (B4.cell (p := ⟨w.heap.size, 5, none⟩) (by simp; omega)).trans kf5
          have qf6 := (B4.cell (p := ⟨w.heap.size, 6, none⟩) (by simp; omega)).trans kf6
          have qf7 := (B4.cell (p := ⟨w.heap.size, 7, none⟩) (by simp; omega)).trans kf7
          have qf8 := (B4.cell (p := ⟨w.heap.size, 8, none⟩) (by simp; omega)).trans kf8
          have qr0 := (B4.cell (p := ⟨w.heap.size + 1 + 1, 0, none⟩) (by simp)).trans kr0
          have qr1 := (B4.cell (p := ⟨w.heap.size + 1 + 1, 1, none⟩) (by simp)).trans kr1
          have qr2 := (B4.cell (p := ⟨w.heap.size + 1 + 1, 2, none⟩) (by simp)).trans kr2
          have qr3 := (B4.cell (p := ⟨w.heap.size + 1 + 1, 3, none⟩) (by simp)).trans kr3
          have qr4 := (B4.cell (p := ⟨w.heap.size + 1 + 1, 4, none⟩) (by simp)).trans kr4
          have qr5 := (B4.cell (p := ⟨w.heap.size + 1 + 1, 5, none⟩) (by simp)).trans kr5
          have qr6 := (B4.cell (p := ⟨w.heap.size + 1 + 1, 6, none⟩) (by simp)).trans kr6
          have qr7 := (B4.cell (p := ⟨w.heap.size + 1 + 1, 7, none⟩) (by simp)).trans kr7
          have qr8 := (B4.cell (p := ⟨w.heap.size + 1 + 1, 8, none⟩) (by simp)).trans kr8
          have qs0 := (B4.frozen (p := ⟨w.heap.size + 1 + 1, 0, none⟩) (by simp)).trans jr0
          have qs1 := (B4.frozen (p := ⟨w.heap.size + 1 + 1, 1, none⟩) (by simp)).trans jr1
          have qs2 := (B4.frozen (p := ⟨w.heap.size + 1 + 1, 2, none⟩) (by simp)).trans jr2
          have qs3 := (B4.frozen (p := ⟨w.heap.size + 1 + 1, 3, none⟩) (by simp)).trans jr3
          have qs4 := (B4.frozen (p := ⟨w.heap.size + 1 + 1, 4, none⟩) (by simp)).trans jr4
          have qs5 := (B4.frozen (p := ⟨w.heap.size + 1 + 1, 5, none⟩) (by simp)).trans jr5
          have qs6 := (B4.frozen (p := ⟨w.heap.size + 1 + 1, 6, none⟩) (by simp)).trans jr6
          have qs7 := (B4.frozen (p := ⟨w.heap.size + 1 + 1, 7, none⟩) (by simp)).trans jr7
          have qs8 := (B4.frozen (p := ⟨w.heap.size + 1 + 1, 8, none⟩) (by simp)).trans jr8
          have hsz4 : w.heap.size + 1 + 1 < W4.heap.size := by omega
          have hbw4 : Below w.heap.size w W4 := HBW.out.trans (B4.mono (by omega))
          have HBW4 := Lib.hid hbw4
          clear B4 hbw4 kf0 kr0 jr0 kf1 kr1 jr1 kf2 kr2 jr2 kf3 kr3 jr3 kf4 kr4 jr4 kf5 kr5 jr5 kf6 kr6 jr6 kf7 kr7 jr7 kf8 kr8 jr8
          go_wp2
          refine bodyPost_ret (v := .tuple #[.agg #[(.int .i64 (f.id)), (.int .i64 (f.ki)), (.int .i64 (f.x)), (.int .i64 (f.y)), (.int .i64 (f.ra)), .slice (some ⟨b, off, none⟩) f.ar.length ca, (.int .i64 (f.de)), (.int .i64 (f.sy)), .slice ps f.se.length cs], .bool false]) ?_ rfl ?_
          · simp [results, Tryz.results31, go_sem, hsz4, qf0, qr0, qf1, qr1, qf2, qr2, qf3, qr3, qf4, qr4, qf5, qr5, qf6, qr6, qf7, qr7, qf8, qr8]
          · have hbw4 := HBW4.out
            have hbz : Below w.heap.size w ((((((((((W4.setCell ⟨w.heap.size + 1 + 1, 0, none⟩ (.int .i64 (f.id))).setCell ⟨w.heap.size + 1 + 1, 1, none⟩ (.int .i64 (f.ki))).setCell ⟨w.heap.size + 1 + 1, 2, none⟩ (.int .i64 (f.x))).setCell ⟨w.heap.size + 1 + 1, 3, none⟩ (.int .i64 (f.y))).setCell ⟨w.heap.size + 1 + 1, 4, none⟩ (.int .i64 (f.ra))).setCell ⟨w.heap.size + 1 + 1, 5, none⟩ (.slice (some ⟨b, off, none⟩) f.ar.length ca)).setCell ⟨w.heap.size + 1 + 1, 6, none⟩ (.int .i64 (f.de))).setCell ⟨w.heap.size + 1 + 1, 7, none⟩ (.int .i64 (f.sy))).setCell ⟨w.heap.size + 1 + 1, 8, none⟩ (.slice ps f.se.length cs))) := (by repeat (first | with_reducible exact Below.refl _ _ | with_reducible assumption | with_reducible refine Below.setCell ?_ (by first | omega | (simp <;> omega)) _ | with_reducible refine balloc ?_ _ | with_reducible refine Below.drew ?_ | with_reducible refine bstep ?_ (by with_reducible assumption)))
            exact ⟨f, false, _, _, _, _, rfl, HF.out.below hbz, fun h => (by cases h), hbz⟩
        · have HV := Lib.hid hv
          clear hv B4
          go_wp2
          go_roundw
          case rel => exact ⟨k + 1, by go_num, by omega, Lib.hid (fun j hj => by
            rcases Nat.lt_or_ge j k with h | h
            · exact HJ.out j h
            · obtain rfl : j = k := by omega
              rw [HX1.out, HX2.out]
              exact HV.out), OW4, HB4.out, hs4⟩
          case measure => simp [intOf]; omega
      · obtain rfl : k = f.ar.length := by omega
        have hszr2 : w.heap.size + 1 + 1 < wr.heap.size := by omega
        have hbwr : Below w.heap.size w wr := HBW.out.trans (hbel.mono (by omega))
        have HBWR := Lib.hid hbwr
        clear hbel hbwr qv0 qv1 kv0 kv1 jf5 kf0 kr0 jr0 kf1 kr1 jr1 kf2 kr2 jr2 kf3 kr3 jr3 kf4 kr4 jr4 kf5 kr5 jr5 kf6 kr6 jr6 kf7 kr7 jr7 kf8 kr8 jr8
        go_wp2
        refine bodyPost_ret (v := .tuple #[.agg #[(.int .i64 (f.id)), (.int .i64 (f.ki)), (.int .i64 (f.x)), (.int .i64 (f.y)), (.int .i64 (f.ra)), .slice (some ⟨g9, 0, none⟩) f.ar.length c9, (.int .i64 (f.de)), (.int .i64 (f.sy)), .slice ps f.se.length cs], .bool true]) ?_ rfl ?_
        · simp [results, Tryz.results31, go_sem, hszr2, qf0, qr0, qf1, qr1, qf2, qr2, qf3, qr3, qf4, qr4, qf5, qr5, qf6, qr6, qf7, qr7, qf8, qr8]
        · have hbw4 := HBWR.out
          have hbz : Below w.heap.size w (((((((((((wr.setCell ⟨w.heap.size, 5, none⟩ (.slice (some ⟨g9, 0, none⟩) f.ar.length c9)).setCell ⟨w.heap.size + 1 + 1, 0, none⟩ (.int .i64 (f.id))).setCell ⟨w.heap.size + 1 + 1, 1, none⟩ (.int .i64 (f.ki))).setCell ⟨w.heap.size + 1 + 1, 2, none⟩ (.int .i64 (f.x))).setCell ⟨w.heap.size + 1 + 1, 3, none⟩ (.int .i64 (f.y))).setCell ⟨w.heap.size + 1 + 1, 4, none⟩ (.int .i64 (f.ra))).setCell ⟨w.heap.size + 1 + 1, 5, none⟩ (.slice (some ⟨g9, 0, none⟩) f.ar.length c9)).setCell ⟨w.heap.size + 1 + 1, 6, none⟩ (.int .i64 (f.de))).setCell ⟨w.heap.size + 1 + 1, 7, none⟩ (.int .i64 (f.sy))).setCell ⟨w.heap.size + 1 + 1, 8, none⟩ (.slice ps f.se.length cs))) := (by repeat (first | with_reducible exact Below.refl _ _ | with_reducible assumption | with_reducible refine Below.setCell ?_ (by first | omega | (simp <;> omega)) _ | with_reducible refine balloc ?_ _ | with_reducible refine Below.drew ?_ | with_reducible refine bstep ?_ (by with_reducible assumption)))
          have em := mvF_pol p1 p2 HK.out
          have hokm : Po.okL (ML p1 p2 f.ar) = true := by
            rw [Po.okL_iff]
            intro q hq
            obtain ⟨u, hu, rfl⟩ := List.mem_map.1 hq
            obtain ⟨i, hi, rfl⟩ := List.getElem_of_mem hu
            have h := HJ.out i hi
            have e : Po.gp f.ar i = f.ar[i] := by simp [Po.gp, hi]
            rw [e] at h
            exact okB_iff.1 h
          have hne0 : w.heap.size ≠ g9 := by omega
          have hne2 : w.heap.size + 1 + 1 ≠ g9 := by omega
          have how := HOk.out
          rw [curM_full] at how
          have howz := own_other (own_other (own_other (own_other (own_other (own_other (own_other (own_other (own_other (own_other (how) (b := w.heap.size) (o := 5) (.slice (some ⟨g9, 0, none⟩) f.ar.length c9) hne0) (b := w.heap.size + 1 + 1) (o := 0) (.int .i64 (f.id)) hne2) (b := w.heap.size + 1 + 1) (o := 1) (.int .i64 (f.ki)) hne2) (b := w.heap.size + 1 + 1) (o := 2) (.int .i64 (f.x)) hne2) (b := w.heap.size + 1 + 1) (o := 3) (.int .i64 (f.y)) hne2) (b := w.heap.size + 1 + 1) (o := 4) (.int .i64 (f.ra)) hne2) (b := w.heap.size + 1 + 1) (o := 5) (.slice (some ⟨g9, 0, none⟩) f.ar.length c9) hne2) (b := w.heap.size + 1 + 1) (o := 6) (.int .i64 (f.de)) hne2) (b := w.heap.size + 1 + 1) (o := 7) (.int .i64 (f.sy)) hne2) (b := w.heap.size + 1 + 1) (o := 8) (.slice ps f.se.length cs) hne2
          have hrow : Po.Row _ g9 0 (ML p1 p2 f.ar) := own_row howz (by rw [lenM]; exact Nat.le_refl _)
          refine ⟨⟨f.id, f.ki, f.x, f.y, f.ra, ML p1 p2 f.ar, f.de, f.sy, f.se⟩, true, some ⟨g9, 0, none⟩, ps, c9, cs, by dsimp only; rw [lenM], ⟨⟨_, _, _, _, rfl, ⟨⟨_, _, rfl, fun _ => ⟨g9, 0, rfl, hrow⟩⟩, by rw [lenM]; omega⟩, HS.out.below hbz⟩, HXY.out⟩, fun _ => ⟨em.symm, ?_⟩, hbz⟩
          rw [← em]
          exact vaF_pol HK.out HVA.out hokm

end Go.Proofs.YtfgajejhjbfhjaaGreat.Fe
