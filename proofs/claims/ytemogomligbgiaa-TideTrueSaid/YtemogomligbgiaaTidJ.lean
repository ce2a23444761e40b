/- TidJ: Height. -/
import Derived.Test.YtemogomligbgiaaTidI
import Derived.Test.YtemogomligbgiaaRows
import Derived.WalkKit
import Derived.WalkSpells
import Derived.WalkLawsBesides
import Derived.Lib.Hide
import Derived.Deep.QuietTactic
import Derived.BigQuiet
import Derived.RegionTactic
import Derived.ChangeAlike
import Derived.BigRegion
import Derived.Deep.RegionHeld3
import Derived.Deep.RegionWith
import Derived.Outline
import Derived.IntWalk
import Derived.Deep.DeepCutAuto
import Derived.LoopTactic
namespace Go.Proofs.Ytemogomligbgiaa.Ti
open Go.RowKit Sp
set_option linter.unusedSimpArgs false
set_option linter.unusedVariables false

def hOk (s p : Int) (l : List Pr) (f u : Int) : Bool := vaT s p l && (tmB f && (tmB u && decide (f ≤ u)))
def hIn (s p : Int) (l : List Pr) (f u : Int) : Bool := decide (s ≤ f) && decide (u ≤ laT s p l)
def hE (s p : Int) (l : List Pr) (f u : Int) : Int := erv (hOk s p l f u) (hIn s p l f u) 4
def hV (s p : Int) (l : List Pr) (f u : Int) : Pr := bif (hOk s p l f u && hIn s p l f u) then duT s p l (f, u) else (0, 0)
theorem haB_eq {s e f u : Int} (hs : 0 ≤ s) (he : s ≤ e) (he2 : e ≤ 10000000) (hf : 0 ≤ f) (hfu : f ≤ u) (hu : u ≤ 10000000) : haB (s, e) (f, u) = (decide (s ≤ f) && decide (u ≤ e)) := by
  have h1 : vE 1000000000000 s e = true := by rw [vE_iff]; omega
  have h2 : vE 1000000000000 f u = true := by rw [vE_iff]; omega
  unfold haB vWithin selB
  rw [h1, h2]
  rfl

set_option maxRecDepth 100000 in
set_option maxHeartbeats 6400000 in
theorem Height_c (s p : Int) (v : Value) (l : List Pr) (f u : Int) (w : World) (hv : Spans w v l) : Calls Try.prog 15 #[.agg #[(.int .i64 s), (.int .i64 p), v], (.int .i64 f), (.int .i64 u)] w (Ret w (.tuple #[.agg #[(.int .i64 ((hV s p l f u).1)), (.int .i64 ((hV s p l f u).2))], (.int .i64 (hE s p l f u))])) := by
  obtain ⟨⟨pp, cap, rfl, hn, hcap, hp⟩, hl⟩ := id hv
  cases h1 : vaT s p l
  · rw [show hE s p l f u = 1 by unfold hE hOk; rw [h1]; rfl, show hV s p l f u = (0, 0) by unfold hV hOk; rw [h1]; rfl]
    clear hp hn
    go_enter Try.func15, Try.ntmps15
    go_wp2_with fail
    refine Calls.mono (valid_c s p _ l _ (hv.below (by repeat (first | with_reducible exact Below.refl _ _ | with_reducible assumption | with_reducible refine Below.setCell ?_ (by first | omega | (simp <;> omega)) _ | with_reducible refine balloc ?_ _ | with_reducible refine Below.drew ?_ | with_reducible refine bstep ?_ (by with_reducible assumption))))) ?_
    rintro e w1 ⟨rfl, hb⟩
    have kt0 : w1.cell? ⟨w.heap.size, 0, none⟩ = some (.int .i64 s) := cell_later hb (by go_simp)
    have kt1 : w1.cell? ⟨w.heap.size, 1, none⟩ = some (.int .i64 p) := cell_later hb (by go_simp)
    have kt2 : w1.cell? ⟨w.heap.size, 2, none⟩ = some (.slice pp l.length cap) := cell_later hb (by go_simp)
    have kr0 : w1.cell? ⟨w.heap.size + 1, 0, none⟩ = some (.int .i64 0) := cell_later hb (by go_simp)
    have jr0 : w1.frozen? ⟨w.heap.size + 1, 0, none⟩ = false := by rw [(bcell hb).2 _ _ (by first | omega | (simp <;> omega))]; go_simp
    have kr1 : w1.cell? ⟨w.heap.size + 1, 1, none⟩ = some (.int .i64 0) := cell_later hb (by go_simp)
    have jr1 : w1.frozen? ⟨w.heap.size + 1, 1, none⟩ = false := by rw [(bcell hb).2 _ _ (by first | omega | (simp <;> omega))]; go_simp
    have zt : w.heap.size < w1.heap.size := World.block_lt_of_cell? _ _ kt0
    have zt_w1 := zt
    have zr : w.heap.size + 1 < w1.heap.size := World.block_lt_of_cell? _ _ kr0
    have zr_w1 := zr
    have hb0 : Below w.heap.size w w1 := (by repeat (first | with_reducible exact Below.refl _ _ | with_reducible assumption | with_reducible refine Below.setCell ?_ (by first | omega | (simp <;> omega)) _ | with_reducible refine balloc ?_ _ | with_reducible refine Below.drew ?_ | with_reducible refine bstep ?_ (by with_reducible assumption)))
    have hs_w1 := hb.size; (try simp only [World.size_alloc, World.size_setCell] at hs_w1)
    clear hb
    rw [h1]
    go_wp2
    refine bodyPost_ret ?_ rfl ⟨rfl, (by repeat (first | with_reducible exact Below.refl _ _ | with_reducible assumption | with_reducible refine Below.setCell ?_ (by first | omega | (simp <;> omega)) _ | with_reducible refine balloc ?_ _ | with_reducible refine Below.drew ?_ | with_reducible refine bstep ?_ (by with_reducible assumption)))⟩
    simp [results, Try.results15, go_sem, kr0, kr1, zr]
  · cases h2 : tmB f
    · rw [show hE s p l f u = 1 by unfold hE hOk; rw [h1, h2]; rfl, show hV s p l f u = (0, 0) by unfold hV hOk; rw [h1, h2]; rfl]
      clear hp hn
      go_enter Try.func15, Try.ntmps15
      go_wp2_with fail
      refine Calls.mono (valid_c s p _ l _ (hv.below (by repeat (first | with_reducible exact Below.refl _ _ | with_reducible assumption | with_reducible refine Below.setCell ?_ (by first | omega | (simp <;> omega)) _ | with_reducible refine balloc ?_ _ | with_reducible refine Below.drew ?_ | with_reducible refine bstep ?_ (by with_reducible assumption))))) ?_
      rintro e w1 ⟨rfl, hb⟩
      have kt0 : w1.cell? ⟨w.heap.size, 0, none⟩ = some (.int .i64 s) := cell_later hb (by go_simp)
      have kt1 : w1.cell? ⟨w.heap.size, 1, none⟩ = some (.int .i64 p) := cell_later hb (by go_simp)
      have kt2 : w1.cell? ⟨w.heap.size, 2, none⟩ = some (.slice pp l.length cap) := cell_later hb (by go_simp)
      have kr0 : w1.cell? ⟨w.heap.size + 1, 0, none⟩ = some (.int .i64 0) := cell_later hb (by go_simp)
      have jr0 : w1.frozen? ⟨w.heap.size + 1, 0, none⟩ = false := by rw [(bcell hb).2 _ _ (by first | omega | (simp <;> omega))]; go_simp
      have kr1 : w1.cell? ⟨w.heap.size + 1, 1, none⟩ = some (.int .i64 0) := cell_later hb (by go_simp)
      have jr1 : w1.frozen? ⟨w.heap.size + 1, 1, none⟩ = false := by rw [(bcell hb).2 _ _ (by first | omega | (simp <;> omega))]; go_simp
      have zt : w.heap.size < w1.heap.size := World.block_lt_of_cell? _ _ kt0
      have zt_w1 := zt
      have zr : w.heap.size + 1 < w1.heap.size := World.block_lt_of_cell? _ _ kr0
      have zr_w1 := zr
      have hb0 : Below w.heap.size w w1 := (by repeat (first | with_reducible exact Below.refl _ _ | with_reducible assumption | with_reducible refine Below.setCell ?_ (by first | omega | (simp <;> omega)) _ | with_reducible refine balloc ?_ _ | with_reducible refine Below.drew ?_ | with_reducible refine bstep ?_ (by with_reducible assumption)))
      have hs_w1 := hb.size; (try simp only [World.size_alloc, World.size_setCell] at hs_w1)
      clear hb
      rw [h1]
      go_wp2_with fail
      refine Calls.mono (isTime_c f _) ?_
      rintro e wx ⟨rfl, rfl⟩
      rw [h2]
      go_wp2
      refine bodyPost_ret ?_ rfl ⟨rfl, (by repeat (first | with_reducible exact Below.refl _ _ | with_reducible assumption | with_reducible refine Below.setCell ?_ (by first | omega | (simp <;> omega)) _ | with_reducible refine balloc ?_ _ | with_reducible refine Below.drew ?_ | with_reducible refine bstep ?_ (by with_reducible assumption)))⟩
      simp [results, Try.results15, go_sem, kr0, kr1, zr]
    · cases h3 : tmB u
      · rw [show hE s p l f u = 1 by unfold hE hOk; rw [h1, h2, h3]; rfl, show hV s p l f u = (0, 0) by unfold hV hOk; rw [h1, h2, h3]; rfl]
        clear hp hn
        go_enter Try.func15, Try.ntmps15
        go_wp2_with fail
        refine Calls.mono (valid_c s p _ l _ (hv.below (by repeat (first | with_reducible exact Below.refl _ _ | with_reducible assumption | with_reducible refine Below.setCell ?_ (by first | omega | (simp <;> omega)) _ | with_reducible refine balloc ?_ _ | with_reducible refine Below.drew ?_ | with_reducible refine bstep ?_ (by with_reducible assumption))))) ?_
        rintro e w1 ⟨rfl, hb⟩
        have kt0 : w1.cell? ⟨w.heap.size, 0, none⟩ = some (.int .i64 s) := cell_later hb (by go_simp)
        have kt1 : w1.cell? ⟨w.heap.size, 1, none⟩ = some (.int .i64 p) := cell_later hb (by go_simp)
        have kt2 : w1.cell? ⟨w.heap.size, 2, none⟩ = some (.slice pp l.length cap) := cell_later hb (by go_simp)
        have kr0 : w1.cell? ⟨w.heap.size + 1, 0, none⟩ = some (.int .i64 0) := cell_later hb (by go_simp)
        have jr0 : w1.frozen? ⟨w.heap.size + 1, 0, none⟩ = false := by rw [(bcell hb).2 _ _ (by first | omega | (simp <;> omega))]; go_simp
        have kr1 : w1.cell? ⟨w.heap.size + 1, 1, none⟩ = some (.int .i64 0) := cell_later hb (by go_simp)
        have jr1 : w1.frozen? ⟨w.heap.size + 1, 1, none⟩ = false := by rw [(bcell hb).2 _ _ (by first | omega | (simp <;> omega))]; go_simp
        have zt : w.heap.size < w1.heap.size := World.block_lt_of_cell? _ _ kt0
        have zt_w1 := zt
        have zr : w.heap.size + 1 < w1.heap.size := World.block_lt_of_cell? _ _ kr0
        have zr_w1 := zr
        have hb0 : Below w.heap.size w w1 := (by repeat (first | with_reducible exact Below.refl _ _ | with_reducible assumption | with_reducible refine Below.setCell ?_ (by first | omega | (simp <;> omega)) _ | with_reducible refine balloc ?_ _ | with_reducible refine Below.drew ?_ | with_reducible refine bstep ?_ (by with_reducible assumption)))
        have hs_w1 := hb.size; (try simp only [World.size_alloc, World.size_setCell] at hs_w1)
        clear hb
        rw [h1]
        go_wp2_with fail
        refine Calls.mono (isTime_c f _) ?_
        rintro e wx ⟨rfl, rfl⟩
        rw [h2]
        go_wp2_with fail
        refine Calls.mono (isTime_c u _) ?_
        rintro e wx ⟨rfl, rfl⟩
        rw [h3]
        go_wp2
        refine bodyPost_ret ?_ rfl ⟨rfl, (by repeat (first | with_reducible exact Below.refl _ _ | with_reducible assumption | with_reducible refine Below.setCell ?_ (by first | omega | (simp <;> omega)) _ | with_reducible refine balloc ?_ _ | with_reducible refine Below.drew ?_ | with_reducible refine bstep ?_ (by with_reducible assumption)))⟩
        simp [results, Try.results15, go_sem, kr0, kr1, zr]
      · cases h4 : decide (f ≤ u)
        · rw [show hE s p l f u = 1 by unfold hE hOk; rw [h1, h2, h3, h4]; rfl, show hV s p l f u = (0, 0) by unfold hV hOk; rw [h1, h2, h3, h4]; rfl]
          have h4' : ¬ (f ≤ u) := by simpa using h4
          clear hp hn
          go_enter Try.func15, Try.ntmps15
          go_wp2_with fail
          refine Calls.mono (valid_c s p _ l _ (hv.below (by repeat (first | with_reducible exact Below.refl _ _ | with_reducible assumption | with_reducible refine Below.setCell ?_ (by first | omega | (simp <;> omega)) _ | with_reducible refine balloc ?_ _ | with_reducible refine Below.drew ?_ | with_reducible refine bstep ?_ (by with_reducible assumption))))) ?_
          rintro e w1 ⟨rfl, hb⟩
          have kt0 : w1.cell? ⟨w.heap.size, 0, none⟩ = some (.int .i64 s) := cell_later hb (by go_simp)
          have kt1 : w1.cell? ⟨w.heap.size, 1, none⟩ = some (.int .i64 p) := cell_later hb (by go_simp)
          have kt2 : w1.cell? ⟨w.heap.size, 2, none⟩ = some (.slice pp l.length cap) := cell_later hb (by go_simp)
          have kr0 : w1.cell? ⟨w.heap.size + 1, 0, none⟩ = some (.int .i64 0) := cell_later hb (by go_simp)
          have jr0 : w1.frozen? ⟨w.heap.size + 1, 0, none⟩ = false := by rw [(bcell hb).2 _ _ (by first | omega | (simp <;> omega))]; go_simp
          have kr1 : w1.cell? ⟨w.heap.size + 1, 1, none⟩ = some (.int .i64 0) := cell_later hb (by go_simp)
          have jr1 : w1.frozen? ⟨w.heap.size + 1, 1, none⟩ = false := by rw [(bcell hb).2 _ _ (by first | omega | (simp <;> omega))]; go_simp
          have zt : w.heap.size < w1.heap.size := World.block_lt_of_cell? _ _ kt0
          have zt_w1 := zt
          have zr : w.heap.size + 1 < w1.heap.size := World.block_lt_of_cell? _ _ kr0
          have zr_w1 := zr
          have hb0 : Below w.heap.size w w1 := (by repeat (first | with_reducible exact Below.refl _ _ | with_reducible assumption | with_reducible refine Below.setCell ?_ (by first | omega | (simp <;> omega)) _ | with_reducible refine balloc ?_ _ | with_reducible refine Below.drew ?_ | with_reducible refine bstep ?_ (by with_reducible assumption)))
          have hs_w1 := hb.size; (try simp only [World.size_alloc, World.size_setCell] at hs_w1)
          clear hb
          rw [h1]
          go_wp2_with fail
          refine Calls.mono (isTime_c f _) ?_
          rintro e wx ⟨rfl, rfl⟩
          rw [h2]
          go_wp2_with fail
          refine Calls.mono (isTime_c u _) ?_
          rintro e wx ⟨rfl, rfl⟩
          rw [h3]
          go_wp2
          refine bodyPost_ret ?_ rfl ⟨rfl, (by repeat (first | with_reducible exact Below.refl _ _ | with_reducible assumption | with_reducible refine Below.setCell ?_ (by first | omega | (simp <;> omega)) _ | with_reducible refine balloc ?_ _ | with_reducible refine Below.drew ?_ | with_reducible refine bstep ?_ (by with_reducible assumption)))⟩
          simp [results, Try.results15, go_sem, kr0, kr1, zr]
        · have h4' : f ≤ u := by simpa using h4
          obtain ⟨⟨vs1, vs2⟩, ⟨vp1, vp2⟩, ⟨vn1, vn2⟩, ⟨vl1, vl2⟩, vall⟩ := vaT_iff.1 h1
          obtain ⟨f1, f2⟩ := btB_iff.1 h2
          obtain ⟨u1, u2⟩ := btB_iff.1 h3
          obtain ⟨b, off, rfl, hr⟩ := hp (by omega)
          have hbl := hr.lt (by omega)
          have hsl : s ≤ laT s p l := by have m := Int.mul_nonneg (a := (l.length : Int) - 1) (b := p) (by omega) (by omega); unfold laT; omega
          have HA : haB (s, laT s p l) (f, u) = hIn s p l f u := haB_eq vs1 hsl vl2 f1 h4' u2
          have HT : ∀ w, Calls Try.prog 40 #[.agg #[(.int .i64 s), (.int .i64 p), .slice (some ⟨b, off, none⟩) l.length cap]] w (Ret w (.agg #[(.int .i64 s), (.int .i64 (laT s p l))])) := fun w => times_c s p _ l.length cap w ⟨vs1, vs2⟩ ⟨vp1, vp2⟩ ⟨vn1, vn2⟩
          have HH : ∀ w, Calls Try.prog 42 #[.agg #[(.int .i64 s), (.int .i64 (laT s p l))], .agg #[(.int .i64 f), (.int .i64 u)]] w (Ret w (.bool (hIn s p l f u))) := fun w => by rw [← HA]; exact hasAll_c s (laT s p l) f u w
          generalize hla : laT s p l = la at *
          have HLA := Lib.hid hla
          clear hla hp hn HA vall
          cases h5 : hIn s p l f u
          · rw [show hE s p l f u = 4 by unfold hE hOk; rw [h1, h2, h3, h4, h5]; rfl, show hV s p l f u = (0, 0) by unfold hV hOk; rw [h1, h2, h3, h4, h5]; rfl]
            go_enter Try.func15, Try.ntmps15
            go_wp2_with fail
            refine Calls.mono (valid_c s p _ l _ (hv.below (by repeat (first | with_reducible exact Below.refl _ _ | with_reducible assumption | with_reducible refine Below.setCell ?_ (by first | omega | (simp <;> omega)) _ | with_reducible refine balloc ?_ _ | with_reducible refine Below.drew ?_ | with_reducible refine bstep ?_ (by with_reducible assumption))))) ?_
            rintro e w1 ⟨rfl, hb⟩
            have kt0 : w1.cell? ⟨w.heap.size, 0, none⟩ = some (.int .i64 s) := cell_later hb (by go_simp)
            have kt1 : w1.cell? ⟨w.heap.size, 1, none⟩ = some (.int .i64 p) := cell_later hb (by go_simp)
            have kt2 : w1.cell? ⟨w.heap.size, 2, none⟩ = some (.slice (some ⟨b, off, none⟩) l.length cap) := cell_later hb (by go_simp)
            have kr0 : w1.cell? ⟨w.heap.size + 1, 0, none⟩ = some (.int .i64 0) := cell_later hb (by go_simp)
            have jr0 : w1.frozen? ⟨w.heap.size + 1, 0, none⟩ = false := by rw [(bcell hb).2 _ _ (by first | omega | (simp <;> omega))]; go_simp
            have kr1 : w1.cell? ⟨w.heap.size + 1, 1, none⟩ = some (.int .i64 0) := cell_later hb (by go_simp)
            have jr1 : w1.frozen? ⟨w.heap.size + 1, 1, none⟩ = false := by rw [(bcell hb).2 _ _ (by first | omega | (simp <;> omega))]; go_simp
            have zt : w.heap.size < w1.heap.size := World.block_lt_of_cell? _ _ kt0
            have zt_w1 := zt
            have zr : w.heap.size + 1 < w1.heap.size := World.block_lt_of_cell? _ _ kr0
            have zr_w1 := zr
            have hb0 : Below w.heap.size w w1 := (by repeat (first | with_reducible exact Below.refl _ _ | with_reducible assumption | with_reducible refine Below.setCell ?_ (by first | omega | (simp <;> omega)) _ | with_reducible refine balloc ?_ _ | with_reducible refine Below.drew ?_ | with_reducible refine bstep ?_ (by with_reducible assumption)))
            have hs_w1 := hb.size; (try simp only [World.size_alloc, World.size_setCell] at hs_w1)
            clear hb
            rw [h1]
            go_wp2_with fail
            refine Calls.mono (isTime_c f _) ?_
            rintro e wx ⟨rfl, rfl⟩
            rw [h2]
            go_wp2_with fail
            refine Calls.mono (isTime_c u _) ?_
            rintro e wx ⟨rfl, rfl⟩
            rw [h3]
            go_wp2_with fail
            refine wp_region_held_drew (S := fun w' => w'.cell? ⟨w.heap.size, 0, none⟩ = some (.int .i64 s) ∧ w'.cell? ⟨w.heap.size, 1, none⟩ = some (.int .i64 p) ∧ w'.cell? ⟨w.heap.size, 2, none⟩ = some (.slice (some ⟨b, off, none⟩) l.length cap) ∧ w'.cell? ⟨w1.heap.size, 0, none⟩ = some (.int .i64 f) ∧ w'.cell? ⟨w1.heap.size, 1, none⟩ = some (.int .i64 u)) (by kernel_rfl) (by first | (go_keep; done) | ((repeat' apply And.intro) <;> go_simp)) (fun hHeld => ?_)
            refine wpAnyH_take (i := 0) (oi := ⟨some 31, _, _, _, _, _⟩) (v := ?_) rfl (by kernel_rfl) (by kernel_rfl) (by kernel_rfl) (fun _ _ _ h => h) (Or.inl ⟨by rfl, ?_⟩) (by assumption) ?_
            rotate_left
            · intro w hSw; (try dsimp only at hSw); go_simp; try with_reducible rfl
            try simp only [Act.put, List.setIfInBounds_toArray, List.set_cons_zero, List.set_cons_succ]
            refine wpAnyH_take (i := 2) (oi := ⟨some 33, _, _, _, _, _⟩) (v := ?_) rfl (by kernel_rfl) (by kernel_rfl) (by kernel_rfl) (fun _ _ _ h => h) (Or.inl ⟨by rfl, ?_⟩) (by assumption) ?_
            rotate_left
            · intro w hSw; (try dsimp only at hSw); go_simp; try with_reducible rfl
            try simp only [Act.put, List.setIfInBounds_toArray, List.set_cons_zero, List.set_cons_succ]
            refine wpAnyH_ready (rs := [1]) (by kernel_rfl) (by simp) ?_
            refine AllReadyH.cons (o := ⟨some 32, _, _, _, _, _⟩) rfl (fun KK hKK => ?_) AllReadyH.nil
            go_simp
            refine Calls.mono (HT _) ?_
            rintro e wt2 ⟨rfl, hb⟩
            replace kt0 := cell_later hb (cell_al _ kt0)
            replace kt1 := cell_later hb (cell_al _ kt1)
            replace kt2 := cell_later hb (cell_al _ kt2)
            replace jr0 := fro_later hb (cell_al _ kr0) (fro_al jr0)
            replace kr0 := cell_later hb (cell_al _ kr0)
            replace jr1 := fro_later hb (cell_al _ kr1) (fro_al jr1)
            replace kr1 := cell_later hb (cell_al _ kr1)
            have kq0 : wt2.cell? ⟨w1.heap.size, 0, none⟩ = some (.int .i64 f) := cell_later hb (by go_simp)
            have kq1 : wt2.cell? ⟨w1.heap.size, 1, none⟩ = some (.int .i64 u) := cell_later hb (by go_simp)
            replace zt : w.heap.size < wt2.heap.size := World.block_lt_of_cell? _ _ kt0
            have zt_wt2 := zt
            replace zr : w.heap.size + 1 < wt2.heap.size := World.block_lt_of_cell? _ _ kr0
            have zr_wt2 := zr
            have zq : w1.heap.size < wt2.heap.size := World.block_lt_of_cell? _ _ kq0
            have zq_wt2 := zq
            replace hb0 : Below w.heap.size w wt2 := (by repeat (first | with_reducible exact Below.refl _ _ | with_reducible assumption | with_reducible refine Below.setCell ?_ (by first | omega | (simp <;> omega)) _ | with_reducible refine balloc ?_ _ | with_reducible refine Below.drew ?_ | with_reducible refine bstep ?_ (by with_reducible assumption)))
            have hs_wt2 := hb.size; (try simp only [World.size_alloc, World.size_setCell] at hs_wt2)
            clear hb
            (try go_wp2_with fail)
            refine hKK.out _ _ (by first | (go_keep; done) | ((repeat' apply And.intro) <;> go_simp)) (fun hHeld => ?_)
            clear hKK KK
            try simp only [Act.put, List.setIfInBounds_toArray, List.set_cons_zero, List.set_cons_succ]
            refine wpAnyH_ready (rs := [3]) (by kernel_rfl) (by simp) ?_
            refine AllReadyH.cons (o := ⟨some 34, _, _, _, _, _⟩) rfl (fun KK hKK => ?_) AllReadyH.nil
            go_simp
            refine Calls.mono (HH _) ?_
            rintro e wt3 ⟨rfl, hb⟩
            replace kt0 := cell_later hb kt0
            replace kt1 := cell_later hb kt1
            replace kt2 := cell_later hb kt2
            replace jr0 := fro_later hb kr0 jr0
            replace kr0 := cell_later hb kr0
            replace jr1 := fro_later hb kr1 jr1
            replace kr1 := cell_later hb kr1
            replace kq0 := cell_later hb kq0
            replace kq1 := cell_later hb kq1
            replace zt : w.heap.size < wt3.heap.size := World.block_lt_of_cell? _ _ kt0
            have zt_wt3 := zt
            replace zr : w.heap.size + 1 < wt3.heap.size := World.block_lt_of_cell? _ _ kr0
            have zr_wt3 := zr
            replace zq : w1.heap.size < wt3.heap.size := World.block_lt_of_cell? _ _ kq0
            have zq_wt3 := zq
            replace hb0 : Below w.heap.size w wt3 := (by repeat (first | with_reducible exact Below.refl _ _ | with_reducible assumption | with_reducible refine Below.setCell ?_ (by first | omega | (simp <;> omega)) _ | with_reducible refine balloc ?_ _ | with_reducible refine Below.drew ?_ | with_reducible refine bstep ?_ (by with_reducible assumption)))
            have hs_wt3 : wt2.heap.size ≤ wt3.heap.size := hb.size
            clear hb
            (try go_wp2_with fail)
            refine hKK.out _ _ (by first | (go_keep; done) | ((repeat' apply And.intro) <;> go_simp)) (fun hHeld => ?_)
            clear hKK KK
            try simp only [Act.put, List.setIfInBounds_toArray, List.set_cons_zero, List.set_cons_succ]
            refine wpAnyH_take (i := 4) (oi := ⟨some 35, _, _, _, _, _⟩) (v := ?_) rfl (by kernel_rfl) (by kernel_rfl) (by kernel_rfl) (fun _ _ _ h => h) (Or.inl ⟨by rfl, ?_⟩) (by assumption) ?_
            rotate_left
            · intro w hSw; (try dsimp only at hSw); go_simp; try with_reducible rfl
            try simp only [Act.put, List.setIfInBounds_toArray, List.set_cons_zero, List.set_cons_succ]
            refine wpAnyH_done (by kernel_rfl) ?_ _
            (try dsimp only [Exit.then, Met])
            (try rw [h5])
            go_wp2
            refine bodyPost_ret ?_ rfl ⟨rfl, (by repeat (first | with_reducible exact Below.refl _ _ | with_reducible assumption | with_reducible refine Below.setCell ?_ (by first | omega | (simp <;> omega)) _ | with_reducible refine balloc ?_ _ | with_reducible refine Below.drew ?_ | with_reducible refine bstep ?_ (by with_reducible assumption)))⟩
            simp [results, Try.results15, go_sem, kr0, kr1, zr]
          · have h6 : s ≤ f ∧ u ≤ la := by have := HLA.out; unfold hIn at h5; rw [this] at h5; simpa using h5
            have HD : ∀ w, Row w b off l → Calls Try.prog 43 #[.agg #[(.int .i64 s), (.int .i64 p), .slice (some ⟨b, off, none⟩) l.length cap], .agg #[(.int .i64 f), (.int .i64 u)]] w (Ret w (.agg #[(.int .i64 ((duT s p l (f, u)).1)), (.int .i64 ((duT s p l (f, u)).2))])) := fun w hr => during_c s p f u b off cap l w h1 h6.1 h4' (by rw [HLA.out]; exact h6.2) hr
            rw [show hE s p l f u = 0 by unfold hE hOk; rw [h1, h2, h3, h4, h5]; rfl, show hV s p l f u = duT s p l (f, u) by unfold hV hOk; rw [h1, h2, h3, h4, h5]; rfl]
            generalize duT s p l (f, u) = dd at *
            obtain ⟨d1, d2⟩ := dd
            go_enter Try.func15, Try.ntmps15
            go_wp2_with fail
            refine Calls.mono (valid_c s p _ l _ (hv.below (by repeat (first | with_reducible exact Below.refl _ _ | with_reducible assumption | with_reducible refine Below.setCell ?_ (by first | omega | (simp <;> omega)) _ | with_reducible refine balloc ?_ _ | with_reducible refine Below.drew ?_ | with_reducible refine bstep ?_ (by with_reducible assumption))))) ?_
            rintro e w1 ⟨rfl, hb⟩
            have kt0 : w1.cell? ⟨w.heap.size, 0, none⟩ = some (.int .i64 s) := cell_later hb (by go_simp)
            have kt1 : w1.cell? ⟨w.heap.size, 1, none⟩ = some (.int .i64 p) := cell_later hb (by go_simp)
            have kt2 : w1.cell? ⟨w.heap.size, 2, none⟩ = some (.slice (some ⟨b, off, none⟩) l.length cap) := cell_later hb (by go_simp)
            have kr0 : w1.cell? ⟨w.heap.size + 1, 0, none⟩ = some (.int .i64 0) := cell_later hb (by go_simp)
            have jr0 : w1.frozen? ⟨w.heap.size + 1, 0, none⟩ = false := by rw [(bcell hb).2 _ _ (by first | omega | (simp <;> omega))]; go_simp
            have kr1 : w1.cell? ⟨w.heap.size + 1, 1, none⟩ = some (.int .i64 0) := cell_later hb (by go_simp)
            have jr1 : w1.frozen? ⟨w.heap.size + 1, 1, none⟩ = false := by rw [(bcell hb).2 _ _ (by first | omega | (simp <;> omega))]; go_simp
            have zt : w.heap.size < w1.heap.size := World.block_lt_of_cell? _ _ kt0
            have zt_w1 := zt
            have zr : w.heap.size + 1 < w1.heap.size := World.block_lt_of_cell? _ _ kr0
            have zr_w1 := zr
            have hb0 : Below w.heap.size w w1 := (by repeat (first | with_reducible exact Below.refl _ _ | with_reducible assumption | with_reducible refine Below.setCell ?_ (by first | omega | (simp <;> omega)) _ | with_reducible refine balloc ?_ _ | with_reducible refine Below.drew ?_ | with_reducible refine bstep ?_ (by with_reducible assumption)))
            have hs_w1 := hb.size; (try simp only [World.size_alloc, World.size_setCell] at hs_w1)
            clear hb
            rw [h1]
            go_wp2_with fail
            refine Calls.mono (isTime_c f _) ?_
            rintro e wx ⟨rfl, rfl⟩
            rw [h2]
            go_wp2_with fail
            refine Calls.mono (isTime_c u _) ?_
            rintro e wx ⟨rfl, rfl⟩
            rw [h3]
            go_wp2_with fail
            refine wp_region_held_drew (S := fun w' => w'.cell? ⟨w.heap.size, 0, none⟩ = some (.int .i64 s) ∧ w'.cell? ⟨w.heap.size, 1, none⟩ = some (.int .i64 p) ∧ w'.cell? ⟨w.heap.size, 2, none⟩ = some (.slice (some ⟨b, off, none⟩) l.length cap) ∧ w'.cell? ⟨w1.heap.size, 0, none⟩ = some (.int .i64 f) ∧ w'.cell? ⟨w1.heap.size, 1, none⟩ = some (.int .i64 u)) (by kernel_rfl) (by first | (go_keep; done) | ((repeat' apply And.intro) <;> go_simp)) (fun hHeld => ?_)
            refine wpAnyH_take (i := 0) (oi := ⟨some 31, _, _, _, _, _⟩) (v := ?_) rfl (by kernel_rfl) (by kernel_rfl) (by kernel_rfl) (fun _ _ _ h => h) (Or.inl ⟨by rfl, ?_⟩) (by assumption) ?_
            rotate_left
            · intro w hSw; (try dsimp only at hSw); go_simp; try with_reducible rfl
            try simp only [Act.put, List.setIfInBounds_toArray, List.set_cons_zero, List.set_cons_succ]
            refine wpAnyH_take (i := 2) (oi := ⟨some 33, _, _, _, _, _⟩) (v := ?_) rfl (by kernel_rfl) (by kernel_rfl) (by kernel_rfl) (fun _ _ _ h => h) (Or.inl ⟨by rfl, ?_⟩) (by assumption) ?_
            rotate_left
            · intro w hSw; (try dsimp only at hSw); go_simp; try with_reducible rfl
            try simp only [Act.put, List.setIfInBounds_toArray, List.set_cons_zero, List.set_cons_succ]
            refine wpAnyH_ready (rs := [1]) (by kernel_rfl) (by simp) ?_
            refine AllReadyH.cons (o := ⟨some 32, _, _, _, _, _⟩) rfl (fun KK hKK => ?_) AllReadyH.nil
            go_simp
            refine Calls.mono (HT _) ?_
            rintro e wt2 ⟨rfl, hb⟩
            replace kt0 := cell_later hb (cell_al _ kt0)
            replace kt1 := cell_later hb (cell_al _ kt1)
            replace kt2 := cell_later hb (cell_al _ kt2)
            replace jr0 := fro_later hb (cell_al _ kr0) (fro_al jr0)
            replace kr0 := cell_later hb (cell_al _ kr0)
            replace jr1 := fro_later hb (cell_al _ kr1) (fro_al jr1)
            replace kr1 := cell_later hb (cell_al _ kr1)
            have kq0 : wt2.cell? ⟨w1.heap.size, 0, none⟩ = some (.int .i64 f) := cell_later hb (by go_simp)
            have kq1 : wt2.cell? ⟨w1.heap.size, 1, none⟩ = some (.int .i64 u) := cell_later hb (by go_simp)
            replace zt : w.heap.size < wt2.heap.size := World.block_lt_of_cell? _ _ kt0
            have zt_wt2 := zt
            replace zr : w.heap.size + 1 < wt2.heap.size := World.block_lt_of_cell? _ _ kr0
            have zr_wt2 := zr
            have zq : w1.heap.size < wt2.heap.size := World.block_lt_of_cell? _ _ kq0
            have zq_wt2 := zq
            replace hb0 : Below w.heap.size w wt2 := (by repeat (first | with_reducible exact Below.refl _ _ | with_reducible assumption | with_reducible refine Below.setCell ?_ (by first | omega | (simp <;> omega)) _ | with_reducible refine balloc ?_ _ | with_reducible refine Below.drew ?_ | with_reducible refine bstep ?_ (by with_reducible assumption)))
            have hs_wt2 := hb.size; (try simp only [World.size_alloc, World.size_setCell] at hs_wt2)
            clear hb
            (try go_wp2_with fail)
            refine hKK.out _ _ (by first | (go_keep; done) | ((repeat' apply And.intro) <;> go_simp)) (fun hHeld => ?_)
            clear hKK KK
            try simp only [Act.put, List.setIfInBounds_toArray, List.set_cons_zero, List.set_cons_succ]
            refine wpAnyH_ready (rs := [3]) (by kernel_rfl) (by simp) ?_
            refine AllReadyH.cons (o := ⟨some 34, _, _, _, _, _⟩) rfl (fun KK hKK => ?_) AllReadyH.nil
            go_simp
            refine Calls.mono (HH _) ?_
            rintro e wt3 ⟨rfl, hb⟩
            replace kt0 := cell_later hb kt0
            replace kt1 := cell_later hb kt1
            replace kt2 := cell_later hb kt2
            replace jr0 := fro_later hb kr0 jr0
            replace kr0 := cell_later hb kr0
            replace jr1 := fro_later hb kr1 jr1
            replace kr1 := cell_later hb kr1
            replace kq0 := cell_later hb kq0
            replace kq1 := cell_later hb kq1
            replace zt : w.heap.size < wt3.heap.size := World.block_lt_of_cell? _ _ kt0
            have zt_wt3 := zt
            replace zr : w.heap.size + 1 < wt3.heap.size := World.block_lt_of_cell? _ _ kr0
            have zr_wt3 := zr
            replace zq : w1.heap.size < wt3.heap.size := World.block_lt_of_cell? _ _ kq0
            have zq_wt3 := zq
            replace hb0 : Below w.heap.size w wt3 := (by repeat (first | with_reducible exact Below.refl _ _ | with_reducible assumption | with_reducible refine Below.setCell ?_ (by first | omega | (simp <;> omega)) _ | with_reducible refine balloc ?_ _ | with_reducible refine Below.drew ?_ | with_reducible refine bstep ?_ (by with_reducible assumption)))
            have hs_wt3 : wt2.heap.size ≤ wt3.heap.size := hb.size
            clear hb
            (try go_wp2_with fail)
            refine hKK.out _ _ (by first | (go_keep; done) | ((repeat' apply And.intro) <;> go_simp)) (fun hHeld => ?_)
            clear hKK KK
            try simp only [Act.put, List.setIfInBounds_toArray, List.set_cons_zero, List.set_cons_succ]
            refine wpAnyH_take (i := 4) (oi := ⟨some 35, _, _, _, _, _⟩) (v := ?_) rfl (by kernel_rfl) (by kernel_rfl) (by kernel_rfl) (fun _ _ _ h => h) (Or.inl ⟨by rfl, ?_⟩) (by assumption) ?_
            rotate_left
            · intro w hSw; (try dsimp only at hSw); go_simp; try with_reducible rfl
            try simp only [Act.put, List.setIfInBounds_toArray, List.set_cons_zero, List.set_cons_succ]
            refine wpAnyH_done (by kernel_rfl) ?_ _
            (try dsimp only [Exit.then, Met])
            (try rw [h5])
            go_wp2_with fail
            refine Calls.mono (HD _ (hr.below hbl hb0)) ?_
            rintro e w4 ⟨rfl, hb⟩
            replace kt0 := cell_later hb kt0
            replace kt1 := cell_later hb kt1
            replace kt2 := cell_later hb kt2
            replace jr0 := fro_later hb kr0 jr0
            replace kr0 := cell_later hb kr0
            replace jr1 := fro_later hb kr1 jr1
            replace kr1 := cell_later hb kr1
            replace kq0 := cell_later hb kq0
            replace kq1 := cell_later hb kq1
            replace zt : w.heap.size < w4.heap.size := World.block_lt_of_cell? _ _ kt0
            have zt_w4 := zt
            replace zr : w.heap.size + 1 < w4.heap.size := World.block_lt_of_cell? _ _ kr0
            have zr_w4 := zr
            replace zq : w1.heap.size < w4.heap.size := World.block_lt_of_cell? _ _ kq0
            have zq_w4 := zq
            replace hb0 : Below w.heap.size w w4 := (by repeat (first | with_reducible exact Below.refl _ _ | with_reducible assumption | with_reducible refine Below.setCell ?_ (by first | omega | (simp <;> omega)) _ | with_reducible refine balloc ?_ _ | with_reducible refine Below.drew ?_ | with_reducible refine bstep ?_ (by with_reducible assumption)))
            have hs_w4 : wt3.heap.size ≤ w4.heap.size := hb.size
            clear hb
            go_wp2
            refine bodyPost_ret ?_ rfl ⟨rfl, (by repeat (first | with_reducible exact Below.refl _ _ | with_reducible assumption | with_reducible refine Below.setCell ?_ (by first | omega | (simp <;> omega)) _ | with_reducible refine balloc ?_ _ | with_reducible refine Below.drew ?_ | with_reducible refine bstep ?_ (by with_reducible assumption)))⟩
            simp [results, Try.results15, go_sem, kr0, kr1, zr]


end Go.Proofs.Ytemogomligbgiaa.Ti
