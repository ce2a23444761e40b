/- TidL: Next. -/
import Derived.Test.YtemogomligbgiaaTidK
import Derived.Test.YtemogomligbgiaaRows
import Derived.WalkKit
import Derived.WalkSpells
import Derived.WalkLawsBesides
import Derived.Lib.Hide
import Derived.Deep.QuietTactic
import Derived.BigQuiet
import Derived.RegionTactic
import Derived.ChangeAlike
import Derived.BigRegion
import Derived.Deep.RegionHeld3
import Derived.Deep.RegionWith
import Derived.Outline
import Derived.IntWalk
import Derived.Deep.DeepCutAuto
import Derived.LoopTactic
namespace Go.Proofs.Ytemogomligbgiaa.Ti
open Go.RowKit Sp
set_option linter.unusedSimpArgs false
set_option linter.unusedVariables false

def nOk (s p : Int) (l : List Pr) (need f g : Int) : Bool := vaT s p l && (ndB need && (tmB f && tmB g))
def nX (s p : Int) (l : List Pr) (need f g : Int) : Option Pr := bif nOk s p l need f g then nxT f g (wiT s p l need) else none
def nE (s p : Int) (l : List Pr) (need f g : Int) : Int := erv (nOk s p l need f g) (nX s p l need f g).isSome 4
def nV (s p : Int) (l : List Pr) (need f g : Int) : Int := match nX s p l need f g with | some v => max f v.1 | none => 0
set_option maxRecDepth 100000 in
set_option maxHeartbeats 3200000 in
theorem Next_c (s p : Int) (v : Value) (l : List Pr) (need f g : Int) (w : World) (hv : Spans w v l) : Calls Try.prog 20 #[.agg #[(.int .i64 s), (.int .i64 p), v], (.int .i64 need), (.int .i64 f), (.int .i64 g)] w (Ret w (.tuple #[(.int .i64 (nV s p l need f g)), (.int .i64 (nE s p l need f g))])) := by
  obtain ⟨⟨pp, cap, rfl, hn, hcap, hp⟩, hl⟩ := id hv
  cases h1 : vaT s p l
  · rw [show nE s p l need f g = 1 by unfold nE nOk; rw [h1]; rfl, show nV s p l need f g = 0 by unfold nV nX nOk; rw [h1]; rfl]
    clear hp hn
    go_enter Try.func20, Try.ntmps20
    go_wp2_with fail
    refine Calls.mono (valid_c s p _ l _ (hv.below (by repeat (first | with_reducible exact Below.refl _ _ | with_reducible assumption | with_reducible refine Below.setCell ?_ (by first | omega | (simp <;> omega)) _ | with_reducible refine balloc ?_ _ | with_reducible refine Below.drew ?_ | with_reducible refine bstep ?_ (by with_reducible assumption))))) ?_
    rintro e w1 ⟨rfl, hb⟩
    have kt0 : w1.cell? ⟨w.heap.size, 0, none⟩ = some (.int .i64 s) := cell_later hb (by go_simp)
    have kt1 : w1.cell? ⟨w.heap.size, 1, none⟩ = some (.int .i64 p) := cell_later hb (by go_simp)
    have kt2 : w1.cell? ⟨w.heap.size, 2, none⟩ = some (.slice pp l.length cap) := cell_later hb (by go_simp)
    have zt : w.heap.size < w1.heap.size := World.block_lt_of_cell? _ _ kt0
    have zt_w1 := zt
    have hb0 : Below w.heap.size w w1 := (by repeat (first | with_reducible exact Below.refl _ _ | with_reducible assumption | with_reducible refine Below.setCell ?_ (by first | omega | (simp <;> omega)) _ | with_reducible refine balloc ?_ _ | with_reducible refine Below.drew ?_ | with_reducible refine bstep ?_ (by with_reducible assumption)))
    have hs_w1 := hb.size; (try simp only [World.size_alloc, World.size_setCell] at hs_w1)
    clear hb
    rw [h1]
    go_wp2
    go_ret2
    exact ⟨rfl, (by repeat (first | with_reducible exact Below.refl _ _ | with_reducible assumption | with_reducible refine Below.setCell ?_ (by first | omega | (simp <;> omega)) _ | with_reducible refine balloc ?_ _ | with_reducible refine Below.drew ?_ | with_reducible refine bstep ?_ (by with_reducible assumption)))⟩
  · cases h2 : ndB need
    · rw [show nE s p l need f g = 1 by unfold nE nOk; rw [h1, h2]; rfl, show nV s p l need f g = 0 by unfold nV nX nOk; rw [h1, h2]; rfl]
      clear hp hn
      go_enter Try.func20, Try.ntmps20
      go_wp2_with fail
      refine Calls.mono (valid_c s p _ l _ (hv.below (by repeat (first | with_reducible exact Below.refl _ _ | with_reducible assumption | with_reducible refine Below.setCell ?_ (by first | omega | (simp <;> omega)) _ | with_reducible refine balloc ?_ _ | with_reducible refine Below.drew ?_ | with_reducible refine bstep ?_ (by with_reducible assumption))))) ?_
      rintro e w1 ⟨rfl, hb⟩
      have kt0 : w1.cell? ⟨w.heap.size, 0, none⟩ = some (.int .i64 s) := cell_later hb (by go_simp)
      have kt1 : w1.cell? ⟨w.heap.size, 1, none⟩ = some (.int .i64 p) := cell_later hb (by go_simp)
      have kt2 : w1.cell? ⟨w.heap.size, 2, none⟩ = some (.slice pp l.length cap) := cell_later hb (by go_simp)
      have zt : w.heap.size < w1.heap.size := World.block_lt_of_cell? _ _ kt0
      have zt_w1 := zt
      have hb0 : Below w.heap.size w w1 := (by repeat (first | with_reducible exact Below.refl _ _ | with_reducible assumption | with_reducible refine Below.setCell ?_ (by first | omega | (simp <;> omega)) _ | with_reducible refine balloc ?_ _ | with_reducible refine Below.drew ?_ | with_reducible refine bstep ?_ (by with_reducible assumption)))
      have hs_w1 := hb.size; (try simp only [World.size_alloc, World.size_setCell] at hs_w1)
      clear hb
      rw [h1]
      go_wp2_with fail
      refine Calls.mono (isNeed_c need _) ?_
      rintro e wx ⟨rfl, rfl⟩
      rw [h2]
      go_wp2
      go_ret2
      exact ⟨rfl, (by repeat (first | with_reducible exact Below.refl _ _ | with_reducible assumption | with_reducible refine Below.setCell ?_ (by first | omega | (simp <;> omega)) _ | with_reducible refine balloc ?_ _ | with_reducible refine Below.drew ?_ | with_reducible refine bstep ?_ (by with_reducible assumption)))⟩
    · cases h3 : tmB f
      · rw [show nE s p l need f g = 1 by unfold nE nOk; rw [h1, h2, h3]; rfl, show nV s p l need f g = 0 by unfold nV nX nOk; rw [h1, h2, h3]; rfl]
        clear hp hn
        go_enter Try.func20, Try.ntmps20
        go_wp2_with fail
        refine Calls.mono (valid_c s p _ l _ (hv.below (by repeat (first | with_reducible exact Below.refl _ _ | with_reducible assumption | with_reducible refine Below.setCell ?_ (by first | omega | (simp <;> omega)) _ | with_reducible refine balloc ?_ _ | with_reducible refine Below.drew ?_ | with_reducible refine bstep ?_ (by with_reducible assumption))))) ?_
        rintro e w1 ⟨rfl, hb⟩
        have kt0 : w1.cell? ⟨w.heap.size, 0, none⟩ = some (.int .i64 s) := cell_later hb (by go_simp)
        have kt1 : w1.cell? ⟨w.heap.size, 1, none⟩ = some (.int .i64 p) := cell_later hb (by go_simp)
        have kt2 : w1.cell? ⟨w.heap.size, 2, none⟩ = some (.slice pp l.length cap) := cell_later hb (by go_simp)
        have zt : w.heap.size < w1.heap.size := World.block_lt_of_cell? _ _ kt0
        have zt_w1 := zt
        have hb0 : Below w.heap.size w w1 := (by repeat (first | with_reducible exact Below.refl _ _ | with_reducible assumption | with_reducible refine Below.setCell ?_ (by first | omega | (simp <;> omega)) _ | with_reducible refine balloc ?_ _ | with_reducible refine Below.drew ?_ | with_reducible refine bstep ?_ (by with_reducible assumption)))
        have hs_w1 := hb.size; (try simp only [World.size_alloc, World.size_setCell] at hs_w1)
        clear hb
        rw [h1]
        go_wp2_with fail
        refine Calls.mono (isNeed_c need _) ?_
        rintro e wx ⟨rfl, rfl⟩
        rw [h2]
        go_wp2_with fail
        refine Calls.mono (isTime_c f _) ?_
        rintro e wx ⟨rfl, rfl⟩
        rw [h3]
        go_wp2
        go_ret2
        exact ⟨rfl, (by repeat (first | with_reducible exact Below.refl _ _ | with_reducible assumption | with_reducible refine Below.setCell ?_ (by first | omega | (simp <;> omega)) _ | with_reducible refine balloc ?_ _ | with_reducible refine Below.drew ?_ | with_reducible refine bstep ?_ (by with_reducible assumption)))⟩
      · cases h4 : tmB g
        · rw [show nE s p l need f g = 1 by unfold nE nOk; rw [h1, h2, h3, h4]; rfl, show nV s p l need f g = 0 by unfold nV nX nOk; rw [h1, h2, h3, h4]; rfl]
          clear hp hn
          go_enter Try.func20, Try.ntmps20
          go_wp2_with fail
          refine Calls.mono (valid_c s p _ l _ (hv.below (by repeat (first | with_reducible exact Below.refl _ _ | with_reducible assumption | with_reducible refine Below.setCell ?_ (by first | omega | (simp <;> omega)) _ | with_reducible refine balloc ?_ _ | with_reducible refine Below.drew ?_ | with_reducible refine bstep ?_ (by with_reducible assumption))))) ?_
          rintro e w1 ⟨rfl, hb⟩
          have kt0 : w1.cell? ⟨w.heap.size, 0, none⟩ = some (.int .i64 s) := cell_later hb (by go_simp)
          have kt1 : w1.cell? ⟨w.heap.size, 1, none⟩ = some (.int .i64 p) := cell_later hb (by go_simp)
          have kt2 : w1.cell? ⟨w.heap.size, 2, none⟩ = some (.slice pp l.length cap) := cell_later hb (by go_simp)
          have zt : w.heap.size < w1.heap.size := World.block_lt_of_cell? _ _ kt0
          have zt_w1 := zt
          have hb0 : Below w.heap.size w w1 := (by repeat (first | with_reducible exact Below.refl _ _ | with_reducible assumption | with_reducible refine Below.setCell ?_ (by first | omega | (simp <;> omega)) _ | with_reducible refine balloc ?_ _ | with_reducible refine Below.drew ?_ | with_reducible refine bstep ?_ (by with_reducible assumption)))
          have hs_w1 := hb.size; (try simp only [World.size_alloc, World.size_setCell] at hs_w1)
          clear hb
          rw [h1]
          go_wp2_with fail
          refine Calls.mono (isNeed_c need _) ?_
          rintro e wx ⟨rfl, rfl⟩
          rw [h2]
          go_wp2_with fail
          refine Calls.mono (isTime_c f _) ?_
          rintro e wx ⟨rfl, rfl⟩
          rw [h3]
          go_wp2_with fail
          refine Calls.mono (isTime_c g _) ?_
          rintro e wx ⟨rfl, rfl⟩
          rw [h4]
          go_wp2
          go_ret2
          exact ⟨rfl, (by repeat (first | with_reducible exact Below.refl _ _ | with_reducible assumption | with_reducible refine Below.setCell ?_ (by first | omega | (simp <;> omega)) _ | with_reducible refine balloc ?_ _ | with_reducible refine Below.drew ?_ | with_reducible refine bstep ?_ (by with_reducible assumption)))⟩
        · obtain ⟨⟨vs1, vs2⟩, ⟨vp1, vp2⟩, ⟨vn1, vn2⟩, ⟨vl1, vl2⟩, vall⟩ := vaT_iff.1 h1
          obtain ⟨f1, f2⟩ := btB_iff.1 h3
          obtain ⟨g1, g2⟩ := btB_iff.1 h4
          obtain ⟨b, off, rfl, hr⟩ := hp (by omega)
          have hbl := hr.lt (by omega)
          clear hp hn vall
          have hok : nOk s p l need f g = true := by unfold nOk; rw [h1, h2, h3, h4]; rfl
          have HX : Hid (nX s p l need f g = nxT f g (wiT s p l need)) := Lib.hid (by unfold nX; rw [hok]; rfl)
          have HOK := Lib.hid hok
          have hwb := (win_T (s := s) (p := p) (l := l) need (by omega) (by omega)).bd
          have hla2 := vl2
          clear hok
          go_enter Try.func20, Try.ntmps20
          go_wp2_with fail
          refine Calls.mono (valid_c s p _ l _ (hv.below (by repeat (first | with_reducible exact Below.refl _ _ | with_reducible assumption | with_reducible refine Below.setCell ?_ (by first | omega | (simp <;> omega)) _ | with_reducible refine balloc ?_ _ | with_reducible refine Below.drew ?_ | with_reducible refine bstep ?_ (by with_reducible assumption))))) ?_
          rintro e w1 ⟨rfl, hb⟩
          have kt0 : w1.cell? ⟨w.heap.size, 0, none⟩ = some (.int .i64 s) := cell_later hb (by go_simp)
          have kt1 : w1.cell? ⟨w.heap.size, 1, none⟩ = some (.int .i64 p) := cell_later hb (by go_simp)
          have kt2 : w1.cell? ⟨w.heap.size, 2, none⟩ = some (.slice (some ⟨b, off, none⟩) l.length cap) := cell_later hb (by go_simp)
          have zt : w.heap.size < w1.heap.size := World.block_lt_of_cell? _ _ kt0
          have zt_w1 := zt
          have hb0 : Below w.heap.size w w1 := (by repeat (first | with_reducible exact Below.refl _ _ | with_reducible assumption | with_reducible refine Below.setCell ?_ (by first | omega | (simp <;> omega)) _ | with_reducible refine balloc ?_ _ | with_reducible refine Below.drew ?_ | with_reducible refine bstep ?_ (by with_reducible assumption)))
          have hs_w1 := hb.size; (try simp only [World.size_alloc, World.size_setCell] at hs_w1)
          clear hb
          rw [h1]
          go_wp2_with fail
          refine Calls.mono (isNeed_c need _) ?_
          rintro e wx ⟨rfl, rfl⟩
          rw [h2]
          go_wp2_with fail
          refine Calls.mono (isTime_c f _) ?_
          rintro e wx ⟨rfl, rfl⟩
          rw [h3]
          go_wp2_with fail
          refine Calls.mono (isTime_c g _) ?_
          rintro e wx ⟨rfl, rfl⟩
          rw [h4]
          go_wp2_with fail
          refine Calls.mono (windows_c s p need b off cap l _ h1 (hr.below hbl hb0)) ?_
          rintro e w2 ⟨v2, rfl, hsp, hb2⟩
          have hb3 : Below w.heap.size w w2 := bstep hb0 hb2
          generalize hwt : wiT s p l need = ws at *
          have HWT := Lib.hid hwt
          have hbd : ∀ i, i < ws.length → 0 ≤ (gt ws i).1 ∧ (gt ws i).1 ≤ 10000000 ∧ (gt ws i).2 ≤ 10000000 := fun i hi => by have := hwb _ (gt_mem hi); omega
          obtain ⟨⟨pw, cw, rfl, _, _, hpw⟩, hlw⟩ := hsp
          have HPW := Lib.hid hpw
          have HBD := Lib.hid hbd
          have HB3 := Lib.hid hb3
          clear hb2 hb0 hwt hpw hbd hb3 hwb kt0 kt1 kt2 hr hv
          go_wp2_with fail
          go_loopw [35] (fun i wr => ∃ k : Nat, i = (.int .i64 k) ∧ k ≤ ws.length ∧ Hid (∀ i, i < k → okN f g (gt ws i) = false) ∧ Below w2.heap.size w2 wr) (fun i _ => ws.length - (intOf i).toNat)
          case atStart => exact ⟨0, rfl, by omega, Lib.hid (fun i hi => by omega), Below.refl _ _⟩
          case round =>
            obtain ⟨k, rfl, hk, HA, hbel⟩ := hrel
            by_cases hlt : k < ws.length
            · obtain ⟨bw, ow, rfl, hrw⟩ := HPW.out (by omega)
              obtain ⟨c0, c1⟩ := hrw.below (hrw.lt (by omega)) hbel k hlt
              obtain ⟨d0, d1, d2⟩ := HBD.out k hlt
              have HOKN : Hid (okN f g (gt ws k) = decide (max f (gt ws k).1 + g ≤ (gt ws k).2)) := Lib.hid rfl
              have HGK : Hid (gt ws k = gt ws k) := Lib.hid rfl
              generalize hgk : gt ws k = gk at *
              have HG := Lib.hid hgk
              obtain ⟨a1, a2⟩ := gk
              dsimp only at *
              have HL := Lib.hid hbel
              have hbw : Below w.heap.size w wr := HB3.out.trans (hbel.mono HB3.out.size)
              clear hgk hrw HGK hbel
              by_cases hq : max f a1 + g ≤ a2
              · go_wp2_with fail
                all_goals
                  go_ret2
                  refine ⟨?_, (by repeat (first | with_reducible exact Below.refl _ _ | with_reducible assumption | with_reducible refine Below.setCell ?_ (by first | omega | (simp <;> omega)) _ | with_reducible refine balloc ?_ _ | with_reducible refine Below.drew ?_ | with_reducible refine bstep ?_ (by with_reducible assumption)))⟩
                  have hx : nX s p l need f g = some (a1, a2) := by rw [HX.out, ← HG.out]; exact nx_some hlt HA.out (by rw [HG.out, HOKN.out]; simpa using hq)
                  have e1 : nV s p l need f g = max f a1 := by unfold nV; rw [hx]
                  have e2 : nE s p l need f g = 0 := by unfold nE; rw [HOK.out, hx]; rfl
                  rw [e1, e2]
                  first | rfl | (simp; done) | (simp; omega)
              · go_wp2_with fail
                all_goals
                  go_roundw
                  case rel => exact ⟨k + 1, by go_num, by omega, Lib.hid (fun i hi => by
                    rcases Nat.lt_or_ge i k with h | h
                    · exact HA.out i h
                    · obtain rfl : i = k := by omega
                      rw [HG.out, HOKN.out]; simpa using hq), bstep HL.out (balloc (Below.refl _ _) _)⟩
                  case measure => simp [intOf]; omega
            · obtain rfl : k = ws.length := by omega
              have hbw : Below w.heap.size w wr := HB3.out.trans (hbel.mono HB3.out.size)
              go_wp2
              go_ret2
              have hx : nX s p l need f g = none := by rw [HX.out]; exact nx_none HA.out
              have e1 : nV s p l need f g = 0 := by unfold nV; rw [hx]
              have e2 : nE s p l need f g = 4 := by unfold nE; rw [HOK.out, hx]; rfl
              rw [e1, e2]
              exact ⟨rfl, hbw⟩


end Go.Proofs.Ytemogomligbgiaa.Ti
