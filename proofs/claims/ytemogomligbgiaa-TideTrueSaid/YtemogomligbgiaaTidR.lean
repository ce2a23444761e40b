/- TidR: together by meet. -/
import Derived.Test.YtemogomligbgiaaTidN
import Derived.Test.YtemogomligbgiaaTidP
import Derived.Test.YtemogomligbgiaaRows
import Derived.WalkKit
import Derived.WalkSpells
import Derived.WalkLawsBesides
import Derived.Lib.Hide
import Derived.Deep.QuietTactic
import Derived.BigQuiet
import Derived.RegionTactic
import Derived.ChangeAlike
import Derived.BigRegion
import Derived.Deep.RegionHeld3
import Derived.Deep.RegionWith
import Derived.Outline
import Derived.IntWalk
import Derived.Deep.DeepCutAuto
import Derived.LoopTactic
namespace Go.Proofs.Ytemogomligbgiaa.Ti
open Go.RowKit Sp
set_option linter.unusedSimpArgs false
set_option linter.unusedVariables false

def tErr (ok al g : Bool) (E : Int) : Int := bif ok then (bif al then (bif g then 0 else E) else 6) else 1
/-- What a call that makes a table leaves. -/
def TwP (w : World) (s p : Int) (L : List Pr) (A : Bool) (err : Int) (e : Ending) (W' : World) : Prop :=
  ∃ v', e = .returned (.tuple #[.agg #[(.int .i64 (selI A s)), (.int .i64 (selI A p)), v'], (.int .i64 err)]) ∧ Spans W' v' (bif A then L else []) ∧ Fresh w.heap.size v' ∧ Below w.heap.size w W'
def tOk (s p : Int) (l : List Pr) (s2 p2 : Int) (l2 : List Pr) : Bool := vaT s p l && vaT s2 p2 l2
def tAl (s p : Int) (l : List Pr) (s2 p2 : Int) (l2 : List Pr) : Bool := decide (s = s2) && (decide (p = p2) && decide (l.length = l2.length))
def mG (l l2 : List Pr) : Bool := allG (fun k => rM (gt l k).1 (gt l k).2 (gt l2 k).1 (gt l2 k).2) l.length
def mL (l l2 : List Pr) : List Pr := upto (fun k => mt (gt l k) (gt l2 k)) l.length
def jL (l l2 : List Pr) : List Pr := upto (fun k => jn (gt l k) (gt l2 k)) l.length

set_option maxRecDepth 100000 in
set_option maxHeartbeats 6400000 in
theorem togM_c (s p : Int) (v : Value) (l : List Pr) (s2 p2 : Int) (v2 : Value) (l2 : List Pr) (w : World) (hv : Spans w v l) (hv2 : Spans w v2 l2) :
    Calls Try.prog 48 #[.agg #[(.int .i64 s), (.int .i64 p), v], .agg #[(.int .i64 s2), (.int .i64 p2), v2], .func (.func 49) #[] #[]] w (TwP w s p (mL l l2) (tOk s p l s2 p2 l2 && (tAl s p l s2 p2 l2 && mG l l2)) (tErr (tOk s p l s2 p2 l2) (tAl s p l s2 p2 l2) (mG l l2) 18)) := by
  have VA : ∀ W, Below w.heap.size w W → Calls Try.prog 14 #[.agg #[(.int .i64 s), (.int .i64 p), v]] W (Ret W (.bool (vaT s p l))) := fun W h => valid_c s p v l W (hv.below h)
  have VB : ∀ W, Below w.heap.size w W → Calls Try.prog 14 #[.agg #[(.int .i64 s2), (.int .i64 p2), v2]] W (Ret W (.bool (vaT s2 p2 l2))) := fun W h => valid_c s2 p2 v2 l2 W (hv2.below h)
  obtain ⟨⟨pp, cap, rfl, hn, hcap, hp⟩, hl⟩ := hv
  obtain ⟨⟨pp2, cap2, rfl, hn2, hcap2, hp2⟩, hl2⟩ := hv2
  cases h1 : vaT s p l
  · rw [show tErr (tOk s p l s2 p2 l2) (tAl s p l s2 p2 l2) (mG l l2) 18 = 1 by unfold tOk tAl; rw [h1]; simp [tErr], show (tOk s p l s2 p2 l2 && (tAl s p l s2 p2 l2 && mG l l2)) = false by unfold tOk tAl; rw [h1]; simp]
    clear hp hp2 hn hn2
    have tf : ∀ x, selI false x = 0 := fun _ => rfl
    unfold TwP
    rw [tf, tf]
    clear tf
    go_enter Try.func48, Try.ntmps48
    go_wp2_with fail
    refine Calls.mono (VA _ (by repeat (first | with_reducible exact Below.refl _ _ | with_reducible assumption | with_reducible refine Below.setCell ?_ (by first | omega | (simp <;> omega)) _ | with_reducible refine balloc ?_ _ | with_reducible refine Below.drew ?_ | with_reducible refine bstep ?_ (by with_reducible assumption)))) ?_
    rintro e w1 ⟨rfl, hb⟩
    have ka0 : w1.cell? ⟨w.heap.size, 0, none⟩ = some (.int .i64 s) := cell_later hb (by go_simp)
    have ka1 : w1.cell? ⟨w.heap.size, 1, none⟩ = some (.int .i64 p) := cell_later hb (by go_simp)
    have ka2 : w1.cell? ⟨w.heap.size, 2, none⟩ = some (.slice pp l.length cap) := cell_later hb (by go_simp)
    have kb0 : w1.cell? ⟨w.heap.size + 1, 0, none⟩ = some (.int .i64 s2) := cell_later hb (by go_simp)
    have kb1 : w1.cell? ⟨w.heap.size + 1, 1, none⟩ = some (.int .i64 p2) := cell_later hb (by go_simp)
    have kb2 : w1.cell? ⟨w.heap.size + 1, 2, none⟩ = some (.slice pp2 l2.length cap2) := cell_later hb (by go_simp)
    have kr0 : w1.cell? ⟨w.heap.size + 1 + 1, 0, none⟩ = some (.int .i64 0) := cell_later hb (by go_simp)
    have jr0 : w1.frozen? ⟨w.heap.size + 1 + 1, 0, none⟩ = false := by rw [(bcell hb).2 _ _ (by first | omega | (simp <;> omega))]; go_simp
    have kr1 : w1.cell? ⟨w.heap.size + 1 + 1, 1, none⟩ = some (.int .i64 0) := cell_later hb (by go_simp)
    have jr1 : w1.frozen? ⟨w.heap.size + 1 + 1, 1, none⟩ = false := by rw [(bcell hb).2 _ _ (by first | omega | (simp <;> omega))]; go_simp
    have kr2 : w1.cell? ⟨w.heap.size + 1 + 1, 2, none⟩ = some (.slice none 0 0) := cell_later hb (by go_simp)
    have jr2 : w1.frozen? ⟨w.heap.size + 1 + 1, 2, none⟩ = false := by rw [(bcell hb).2 _ _ (by first | omega | (simp <;> omega))]; go_simp
    have za : w.heap.size < w1.heap.size := World.block_lt_of_cell? _ _ ka0
    have za_w1 := za
    have zb : w.heap.size + 1 < w1.heap.size := World.block_lt_of_cell? _ _ kb0
    have zb_w1 := zb
    have zr : w.heap.size + 1 + 1 < w1.heap.size := World.block_lt_of_cell? _ _ kr0
    have zr_w1 := zr
    have hb0 : Below w.heap.size w w1 := (by repeat (first | with_reducible exact Below.refl _ _ | with_reducible assumption | with_reducible refine Below.setCell ?_ (by first | omega | (simp <;> omega)) _ | with_reducible refine balloc ?_ _ | with_reducible refine Below.drew ?_ | with_reducible refine bstep ?_ (by with_reducible assumption)))
    have hs_w1 := hb.size; (try simp only [World.size_alloc, World.size_setCell] at hs_w1)
    clear hb
    rw [h1]
    go_wp2
    refine bodyPost_ret (v := .tuple #[.agg #[(.int .i64 0), (.int .i64 0), .slice none 0 0], (.int .i64 1)]) ?_ rfl ⟨_, rfl, Spans.nil _, Fresh.nil _, (by repeat (first | with_reducible exact Below.refl _ _ | with_reducible assumption | with_reducible refine Below.setCell ?_ (by first | omega | (simp <;> omega)) _ | with_reducible refine balloc ?_ _ | with_reducible refine Below.drew ?_ | with_reducible refine bstep ?_ (by with_reducible assumption)))⟩
    simp [results, Try.results48, go_sem, kr0, kr1, kr2, zr]
  · cases h2 : vaT s2 p2 l2
    · rw [show tErr (tOk s p l s2 p2 l2) (tAl s p l s2 p2 l2) (mG l l2) 18 = 1 by unfold tOk tAl; rw [h1, h2]; simp [tErr], show (tOk s p l s2 p2 l2 && (tAl s p l s2 p2 l2 && mG l l2)) = false by unfold tOk tAl; rw [h1, h2]; simp]
      clear hp hp2 hn hn2
      have tf : ∀ x, selI false x = 0 := fun _ => rfl
      unfold TwP
      rw [tf, tf]
      clear tf
      go_enter Try.func48, Try.ntmps48
      go_wp2_with fail
      refine Calls.mono (VA _ (by repeat (first | with_reducible exact Below.refl _ _ | with_reducible assumption | with_reducible refine Below.setCell ?_ (by first | omega | (simp <;> omega)) _ | with_reducible refine balloc ?_ _ | with_reducible refine Below.drew ?_ | with_reducible refine bstep ?_ (by with_reducible assumption)))) ?_
      rintro e w1 ⟨rfl, hb⟩
      have ka0 : w1.cell? ⟨w.heap.size, 0, none⟩ = some (.int .i64 s) := cell_later hb (by go_simp)
      have ka1 : w1.cell? ⟨w.heap.size, 1, none⟩ = some (.int .i64 p) := cell_later hb (by go_simp)
      have ka2 : w1.cell? ⟨w.heap.size, 2, none⟩ = some (.slice pp l.length cap) := cell_later hb (by go_simp)
      have kb0 : w1.cell? ⟨w.heap.size + 1, 0, none⟩ = some (.int .i64 s2) := cell_later hb (by go_simp)
      have kb1 : w1.cell? ⟨w.heap.size + 1, 1, none⟩ = some (.int .i64 p2) := cell_later hb (by go_simp)
      have kb2 : w1.cell? ⟨w.heap.size + 1, 2, none⟩ = some (.slice pp2 l2.length cap2) := cell_later hb (by go_simp)
      have kr0 : w1.cell? ⟨w.heap.size + 1 + 1, 0, none⟩ = some (.int .i64 0) := cell_later hb (by go_simp)
      have jr0 : w1.frozen? ⟨w.heap.size + 1 + 1, 0, none⟩ = false := by rw [(bcell hb).2 _ _ (by first | omega | (simp <;> omega))]; go_simp
      have kr1 : w1.cell? ⟨w.heap.size + 1 + 1, 1, none⟩ = some (.int .i64 0) := cell_later hb (by go_simp)
      have jr1 : w1.frozen? ⟨w.heap.size + 1 + 1, 1, none⟩ = false := by rw [(bcell hb).2 _ _ (by first | omega | (simp <;> omega))]; go_simp
      have kr2 : w1.cell? ⟨w.heap.size + 1 + 1, 2, none⟩ = some (.slice none 0 0) := cell_later hb (by go_simp)
      have jr2 : w1.frozen? ⟨w.heap.size + 1 + 1, 2, none⟩ = false := by rw [(bcell hb).2 _ _ (by first | omega | (simp <;> omega))]; go_simp
      have za : w.heap.size < w1.heap.size := World.block_lt_of_cell? _ _ ka0
      have za_w1 := za
      have zb : w.heap.size + 1 < w1.heap.size := World.block_lt_of_cell? _ _ kb0
      have zb_w1 := zb
      have zr : w.heap.size + 1 + 1 < w1.heap.size := World.block_lt_of_cell? _ _ kr0
      have zr_w1 := zr
      have hb0 : Below w.heap.size w w1 := (by repeat (first | with_reducible exact Below.refl _ _ | with_reducible assumption | with_reducible refine Below.setCell ?_ (by first | omega | (simp <;> omega)) _ | with_reducible refine balloc ?_ _ | with_reducible refine Below.drew ?_ | with_reducible refine bstep ?_ (by with_reducible assumption)))
      have hs_w1 := hb.size; (try simp only [World.size_alloc, World.size_setCell] at hs_w1)
      clear hb
      rw [h1]
      go_wp2_with fail
      refine Calls.mono (VB _ (by repeat (first | with_reducible exact Below.refl _ _ | with_reducible assumption | with_reducible refine Below.setCell ?_ (by first | omega | (simp <;> omega)) _ | with_reducible refine balloc ?_ _ | with_reducible refine Below.drew ?_ | with_reducible refine bstep ?_ (by with_reducible assumption)))) ?_
      rintro e w2 ⟨rfl, hb⟩
      replace ka0 := cell_later hb ka0
      replace ka1 := cell_later hb ka1
      replace ka2 := cell_later hb ka2
      replace kb0 := cell_later hb kb0
      replace kb1 := cell_later hb kb1
      replace kb2 := cell_later hb kb2
      replace jr0 := fro_later hb kr0 jr0
      replace kr0 := cell_later hb kr0
      replace jr1 := fro_later hb kr1 jr1
      replace kr1 := cell_later hb kr1
      replace jr2 := fro_later hb kr2 jr2
      replace kr2 := cell_later hb kr2
      replace za : w.heap.size < w2.heap.size := World.block_lt_of_cell? _ _ ka0
      have za_w2 := za
      replace zb : w.heap.size + 1 < w2.heap.size := World.block_lt_of_cell? _ _ kb0
      have zb_w2 := zb
      replace zr : w.heap.size + 1 + 1 < w2.heap.size := World.block_lt_of_cell? _ _ kr0
      have zr_w2 := zr
      replace hb0 : Below w.heap.size w w2 := (by repeat (first | with_reducible exact Below.refl _ _ | with_reducible assumption | with_reducible refine Below.setCell ?_ (by first | omega | (simp <;> omega)) _ | with_reducible refine balloc ?_ _ | with_reducible refine Below.drew ?_ | with_reducible refine bstep ?_ (by with_reducible assumption)))
      have hs_w2 : w1.heap.size ≤ w2.heap.size := hb.size
      clear hb
      rw [h2]
      go_wp2
      refine bodyPost_ret (v := .tuple #[.agg #[(.int .i64 0), (.int .i64 0), .slice none 0 0], (.int .i64 1)]) ?_ rfl ⟨_, rfl, Spans.nil _, Fresh.nil _, (by repeat (first | with_reducible exact Below.refl _ _ | with_reducible assumption | with_reducible refine Below.setCell ?_ (by first | omega | (simp <;> omega)) _ | with_reducible refine balloc ?_ _ | with_reducible refine Below.drew ?_ | with_reducible refine bstep ?_ (by with_reducible assumption)))⟩
      simp [results, Try.results48, go_sem, kr0, kr1, kr2, zr]
    · cases h3 : decide (s = s2)
      · rw [show tErr (tOk s p l s2 p2 l2) (tAl s p l s2 p2 l2) (mG l l2) 18 = 6 by unfold tOk tAl; rw [h1, h2, h3]; simp [tErr], show (tOk s p l s2 p2 l2 && (tAl s p l s2 p2 l2 && mG l l2)) = false by unfold tOk tAl; rw [h1, h2, h3]; simp]
        clear hp hp2 hn hn2
        have n3 : ¬ (s = s2) := by simpa using h3
        have tf : ∀ x, selI false x = 0 := fun _ => rfl
        unfold TwP
        rw [tf, tf]
        clear tf
        go_enter Try.func48, Try.ntmps48
        go_wp2_with fail
        refine Calls.mono (VA _ (by repeat (first | with_reducible exact Below.refl _ _ | with_reducible assumption | with_reducible refine Below.setCell ?_ (by first | omega | (simp <;> omega)) _ | with_reducible refine balloc ?_ _ | with_reducible refine Below.drew ?_ | with_reducible refine bstep ?_ (by with_reducible assumption)))) ?_
        rintro e w1 ⟨rfl, hb⟩
        have ka0 : w1.cell? ⟨w.heap.size, 0, none⟩ = some (.int .i64 s) := cell_later hb (by go_simp)
        have ka1 : w1.cell? ⟨w.heap.size, 1, none⟩ = some (.int .i64 p) := cell_later hb (by go_simp)
        have ka2 : w1.cell? ⟨w.heap.size, 2, none⟩ = some (.slice pp l.length cap) := cell_later hb (by go_simp)
        have kb0 : w1.cell? ⟨w.heap.size + 1, 0, none⟩ = some (.int .i64 s2) := cell_later hb (by go_simp)
        have kb1 : w1.cell? ⟨w.heap.size + 1, 1, none⟩ = some (.int .i64 p2) := cell_later hb (by go_simp)
        have kb2 : w1.cell? ⟨w.heap.size + 1, 2, none⟩ = some (.slice pp2 l2.length cap2) := cell_later hb (by go_simp)
        have kr0 : w1.cell? ⟨w.heap.size + 1 + 1, 0, none⟩ = some (.int .i64 0) := cell_later hb (by go_simp)
        have jr0 : w1.frozen? ⟨w.heap.size + 1 + 1, 0, none⟩ = false := by rw [(bcell hb).2 _ _ (by first | omega | (simp <;> omega))]; go_simp
        have kr1 : w1.cell? ⟨w.heap.size + 1 + 1, 1, none⟩ = some (.int .i64 0) := cell_later hb (by go_simp)
        have jr1 : w1.frozen? ⟨w.heap.size + 1 + 1, 1, none⟩ = false := by rw [(bcell hb).2 _ _ (by first | omega | (simp <;> omega))]; go_simp
        have kr2 : w1.cell? ⟨w.heap.size + 1 + 1, 2, none⟩ = some (.slice none 0 0) := cell_later hb (by go_simp)
        have jr2 : w1.frozen? ⟨w.heap.size + 1 + 1, 2, none⟩ = false := by rw [(bcell hb).2 _ _ (by first | omega | (simp <;> omega))]; go_simp
        have za : w.heap.size < w1.heap.size := World.block_lt_of_cell? _ _ ka0
        have za_w1 := za
        have zb : w.heap.size + 1 < w1.heap.size := World.block_lt_of_cell? _ _ kb0
        have zb_w1 := zb
        have zr : w.heap.size + 1 + 1 < w1.heap.size := World.block_lt_of_cell? _ _ kr0
        have zr_w1 := zr
        have hb0 : Below w.heap.size w w1 := (by repeat (first | with_reducible exact Below.refl _ _ | with_reducible assumption | with_reducible refine Below.setCell ?_ (by first | omega | (simp <;> omega)) _ | with_reducible refine balloc ?_ _ | with_reducible refine Below.drew ?_ | with_reducible refine bstep ?_ (by with_reducible assumption)))
        have hs_w1 := hb.size; (try simp only [World.size_alloc, World.size_setCell] at hs_w1)
        clear hb
        rw [h1]
        go_wp2_with fail
        refine Calls.mono (VB _ (by repeat (first | with_reducible exact Below.refl _ _ | with_reducible assumption | with_reducible refine Below.setCell ?_ (by first | omega | (simp <;> omega)) _ | with_reducible refine balloc ?_ _ | with_reducible refine Below.drew ?_ | with_reducible refine bstep ?_ (by with_reducible assumption)))) ?_
        rintro e w2 ⟨rfl, hb⟩
        replace ka0 := cell_later hb ka0
        replace ka1 := cell_later hb ka1
        replace ka2 := cell_later hb ka2
        replace kb0 := cell_later hb kb0
        replace kb1 := cell_later hb kb1
        replace kb2 := cell_later hb kb2
        replace jr0 := fro_later hb kr0 jr0
        replace kr0 := cell_later hb kr0
        replace jr1 := fro_later hb kr1 jr1
        replace kr1 := cell_later hb kr1
        replace jr2 := fro_later hb kr2 jr2
        replace kr2 := cell_later hb kr2
        replace za : w.heap.size < w2.heap.size := World.block_lt_of_cell? _ _ ka0
        have za_w2 := za
        replace zb : w.heap.size + 1 < w2.heap.size := World.block_lt_of_cell? _ _ kb0
        have zb_w2 := zb
        replace zr : w.heap.size + 1 + 1 < w2.heap.size := World.block_lt_of_cell? _ _ kr0
        have zr_w2 := zr
        replace hb0 : Below w.heap.size w w2 := (by repeat (first | with_reducible exact Below.refl _ _ | with_reducible assumption | with_reducible refine Below.setCell ?_ (by first | omega | (simp <;> omega)) _ | with_reducible refine balloc ?_ _ | with_reducible refine Below.drew ?_ | with_reducible refine bstep ?_ (by with_reducible assumption)))
        have hs_w2 : w1.heap.size ≤ w2.heap.size := hb.size
        clear hb
        rw [h2]
        go_wp2
        refine bodyPost_ret (v := .tuple #[.agg #[(.int .i64 0), (.int .i64 0), .slice none 0 0], (.int .i64 6)]) ?_ rfl ⟨_, rfl, Spans.nil _, Fresh.nil _, (by repeat (first | with_reducible exact Below.refl _ _ | with_reducible assumption | with_reducible refine Below.setCell ?_ (by first | omega | (simp <;> omega)) _ | with_reducible refine balloc ?_ _ | with_reducible refine Below.drew ?_ | with_reducible refine bstep ?_ (by with_reducible assumption)))⟩
        simp [results, Try.results48, go_sem, kr0, kr1, kr2, zr]
      · cases h4 : decide (p = p2)
        · rw [show tErr (tOk s p l s2 p2 l2) (tAl s p l s2 p2 l2) (mG l l2) 18 = 6 by unfold tOk tAl; rw [h1, h2, h3, h4]; simp [tErr], show (tOk s p l s2 p2 l2 && (tAl s p l s2 p2 l2 && mG l l2)) = false by unfold tOk tAl; rw [h1, h2, h3, h4]; simp]
          clear hp hp2 hn hn2
          have n4 : ¬ (p = p2) := by simpa using h4
          obtain rfl : s = s2 := by simpa using h3
          have tf : ∀ x, selI false x = 0 := fun _ => rfl
          unfold TwP
          rw [tf, tf]
          clear tf
          go_enter Try.func48, Try.ntmps48
          go_wp2_with fail
          refine Calls.mono (VA _ (by repeat (first | with_reducible exact Below.refl _ _ | with_reducible assumption | with_reducible refine Below.setCell ?_ (by first | omega | (simp <;> omega)) _ | with_reducible refine balloc ?_ _ | with_reducible refine Below.drew ?_ | with_reducible refine bstep ?_ (by with_reducible assumption)))) ?_
          rintro e w1 ⟨rfl, hb⟩
          have ka0 : w1.cell? ⟨w.heap.size, 0, none⟩ = some (.int .i64 s) := cell_later hb (by go_simp)
          have ka1 : w1.cell? ⟨w.heap.size, 1, none⟩ = some (.int .i64 p) := cell_later hb (by go_simp)
          have ka2 : w1.cell? ⟨w.heap.size, 2, none⟩ = some (.slice pp l.length cap) := cell_later hb (by go_simp)
          have kb0 : w1.cell? ⟨w.heap.size + 1, 0, none⟩ = some (.int .i64 s) := cell_later hb (by go_simp)
          have kb1 : w1.cell? ⟨w.heap.size + 1, 1, none⟩ = some (.int .i64 p2) := cell_later hb (by go_simp)
          have kb2 : w1.cell? ⟨w.heap.size + 1, 2, none⟩ = some (.slice pp2 l2.length cap2) := cell_later hb (by go_simp)
          have kr0 : w1.cell? ⟨w.heap.size + 1 + 1, 0, none⟩ = some (.int .i64 0) := cell_later hb (by go_simp)
          have jr0 : w1.frozen? ⟨w.heap.size + 1 + 1, 0, none⟩ = false := by rw [(bcell hb).2 _ _ (by first | omega | (simp <;> omega))]; go_simp
          have kr1 : w1.cell? ⟨w.heap.size + 1 + 1, 1, none⟩ = some (.int .i64 0) := cell_later hb (by go_simp)
          have jr1 : w1.frozen? ⟨w.heap.size + 1 + 1, 1, none⟩ = false := by rw [(bcell hb).2 _ _ (by first | omega | (simp <;> omega))]; go_simp
          have kr2 : w1.cell? ⟨w.heap.size + 1 + 1, 2, none⟩ = some (.slice none 0 0) := cell_later hb (by go_simp)
          have jr2 : w1.frozen? ⟨w.heap.size + 1 + 1, 2, none⟩ = false := by rw [(bcell hb).2 _ _ (by first | omega | (simp <;> omega))]; go_simp
          have za : w.heap.size < w1.heap.size := World.block_lt_of_cell? _ _ ka0
          have za_w1 := za
          have zb : w.heap.size + 1 < w1.heap.size := World.block_lt_of_cell? _ _ kb0
          have zb_w1 := zb
          have zr : w.heap.size + 1 + 1 < w1.heap.size := World.block_lt_of_cell? _ _ kr0
          have zr_w1 := zr
          have hb0 : Below w.heap.size w w1 := (by repeat (first | with_reducible exact Below.refl _ _ | with_reducible assumption | with_reducible refine Below.setCell ?_ (by first | omega | (simp <;> omega)) _ | with_reducible refine balloc ?_ _ | with_reducible refine Below.drew ?_ | with_reducible refine bstep ?_ (by with_reducible assumption)))
          have hs_w1 := hb.size; (try simp only [World.size_alloc, World.size_setCell] at hs_w1)
          clear hb
          rw [h1]
          go_wp2_with fail
          refine Calls.mono (VB _ (by repeat (first | with_reducible exact Below.refl _ _ | with_reducible assumption | with_reducible refine Below.setCell ?_ (by first | omega | (simp <;> omega)) _ | with_reducible refine balloc ?_ _ | with_reducible refine Below.drew ?_ | with_reducible refine bstep ?_ (by with_reducible assumption)))) ?_
          rintro e w2 ⟨rfl, hb⟩
          replace ka0 := cell_later hb ka0
          replace ka1 := cell_later hb ka1
          replace ka2 := cell_later hb ka2
          replace kb0 := cell_later hb kb0
          replace kb1 := cell_later hb kb1
          replace kb2 := cell_later hb kb2
          replace jr0 := fro_later hb kr0 jr0
          replace kr0 := cell_later hb kr0
          replace jr1 := fro_later hb kr1 jr1
          replace kr1 := cell_later hb kr1
          replace jr2 := fro_later hb kr2 jr2
          replace kr2 := cell_later hb kr2
          replace za : w.heap.size < w2.heap.size := World.block_lt_of_cell? _ _ ka0
          have za_w2 := za
          replace zb : w.heap.size + 1 < w2.heap.size := World.block_lt_of_cell? _ _ kb0
          have zb_w2 := zb
          replace zr : w.heap.size + 1 + 1 < w2.heap.size := World.block_lt_of_cell? _ _ kr0
          have zr_w2 := zr
          replace hb0 : Below w.heap.size w w2 := (by repeat (first | with_reducible exact Below.refl _ _ | with_reducible assumption | with_reducible refine Below.setCell ?_ (by first | omega | (simp <;> omega)) _ | with_reducible refine balloc ?_ _ | with_reducible refine Below.drew ?_ | with_reducible refine bstep ?_ (by with_reducible assumption)))
          have hs_w2 : w1.heap.size ≤ w2.heap.size := hb.size
          clear hb
          rw [h2]
          go_wp2
          refine bodyPost_ret (v := .tuple #[.agg #[(.int .i64 0), (.int .i64 0), .slice none 0 0], (.int .i64 6)]) ?_ rfl ⟨_, rfl, Spans.nil _, Fresh.nil _, (by repeat (first | with_reducible exact Below.refl _ _ | with_reducible assumption | with_reducible refine Below.setCell ?_ (by first | omega | (simp <;> omega)) _ | with_reducible refine balloc ?_ _ | with_reducible refine Below.drew ?_ | with_reducible refine bstep ?_ (by with_reducible assumption)))⟩
          simp [results, Try.results48, go_sem, kr0, kr1, kr2, zr]
        · cases h5 : decide (l.length = l2.length)
          · rw [show tErr (tOk s p l s2 p2 l2) (tAl s p l s2 p2 l2) (mG l l2) 18 = 6 by unfold tOk tAl; rw [h1, h2, h3, h4, h5]; simp [tErr], show (tOk s p l s2 p2 l2 && (tAl s p l s2 p2 l2 && mG l l2)) = false by unfold tOk tAl; rw [h1, h2, h3, h4, h5]; simp]
            clear hp hp2 hn hn2
            have n5 : ¬ (l.length = l2.length) := by simpa using h5
            have n5i : ¬ ((l.length : Int) = (l2.length : Int)) := by omega
            obtain rfl : s = s2 := by simpa using h3
            obtain rfl : p = p2 := by simpa using h4
            have tf : ∀ x, selI false x = 0 := fun _ => rfl
            unfold TwP
            rw [tf, tf]
            clear tf
            go_enter Try.func48, Try.ntmps48
            go_wp2_with fail
            refine Calls.mono (VA _ (by repeat (first | with_reducible exact Below.refl _ _ | with_reducible assumption | with_reducible refine Below.setCell ?_ (by first | omega | (simp <;> omega)) _ | with_reducible refine balloc ?_ _ | with_reducible refine Below.drew ?_ | with_reducible refine bstep ?_ (by with_reducible assumption)))) ?_
            rintro e w1 ⟨rfl, hb⟩
            have ka0 : w1.cell? ⟨w.heap.size, 0, none⟩ = some (.int .i64 s) := cell_later hb (by go_simp)
            have ka1 : w1.cell? ⟨w.heap.size, 1, none⟩ = some (.int .i64 p) := cell_later hb (by go_simp)
            have ka2 : w1.cell? ⟨w.heap.size, 2, none⟩ = some (.slice pp l.length cap) := cell_later hb (by go_simp)
            have kb0 : w1.cell? ⟨w.heap.size + 1, 0, none⟩ = some (.int .i64 s) := cell_later hb (by go_simp)
            have kb1 : w1.cell? ⟨w.heap.size + 1, 1, none⟩ = some (.int .i64 p) := cell_later hb (by go_simp)
            have kb2 : w1.cell? ⟨w.heap.size + 1, 2, none⟩ = some (.slice pp2 l2.length cap2) := cell_later hb (by go_simp)
            have kr0 : w1.cell? ⟨w.heap.size + 1 + 1, 0, none⟩ = some (.int .i64 0) := cell_later hb (by go_simp)
            have jr0 : w1.frozen? ⟨w.heap.size + 1 + 1, 0, none⟩ = false := by rw [(bcell hb).2 _ _ (by first | omega | (simp <;> omega))]; go_simp
            have kr1 : w1.cell? ⟨w.heap.size + 1 + 1, 1, none⟩ = some (.int .i64 0) := cell_later hb (by go_simp)
            have jr1 : w1.frozen? ⟨w.heap.size + 1 + 1, 1, none⟩ = false := by rw [(bcell hb).2 _ _ (by first | omega | (simp <;> omega))]; go_simp
            have kr2 : w1.cell? ⟨w.heap.size + 1 + 1, 2, none⟩ = some (.slice none 0 0) := cell_later hb (by go_simp)
            have jr2 : w1.frozen? ⟨w.heap.size + 1 + 1, 2, none⟩ = false := by rw [(bcell hb).2 _ _ (by first | omega | (simp <;> omega))]; go_simp
            have za : w.heap.size < w1.heap.size := World.block_lt_of_cell? _ _ ka0
            have za_w1 := za
            have zb : w.heap.size + 1 < w1.heap.size := World.block_lt_of_cell? _ _ kb0
            have zb_w1 := zb
            have zr : w.heap.size + 1 + 1 < w1.heap.size := World.block_lt_of_cell? _ _ kr0
            have zr_w1 := zr
            have hb0 : Below w.heap.size w w1 := (by repeat (first | with_reducible exact Below.refl _ _ | with_reducible assumption | with_reducible refine Below.setCell ?_ (by first | omega | (simp <;> omega)) _ | with_reducible refine balloc ?_ _ | with_reducible refine Below.drew ?_ | with_reducible refine bstep ?_ (by with_reducible assumption)))
            have hs_w1 := hb.size; (try simp only [World.size_alloc, World.size_setCell] at hs_w1)
            clear hb
            rw [h1]
            go_wp2_with fail
            refine Calls.mono (VB _ (by repeat (first | with_reducible exact Below.refl _ _ | with_reducible assumption | with_reducible refine Below.setCell ?_ (by first | omega | (simp <;> omega)) _ | with_reducible refine balloc ?_ _ | with_reducible refine Below.drew ?_ | with_reducible refine bstep ?_ (by with_reducible assumption)))) ?_
            rintro e w2 ⟨rfl, hb⟩
            replace ka0 := cell_later hb ka0
            replace ka1 := cell_later hb ka1
            replace ka2 := cell_later hb ka2
            replace kb0 := cell_later hb kb0
            replace kb1 := cell_later hb kb1
            replace kb2 := cell_later hb kb2
            replace jr0 := fro_later hb kr0 jr0
            replace kr0 := cell_later hb kr0
            replace jr1 := fro_later hb kr1 jr1
            replace kr1 := cell_later hb kr1
            replace jr2 := fro_later hb kr2 jr2
            replace kr2 := cell_later hb kr2
            replace za : w.heap.size < w2.heap.size := World.block_lt_of_cell? _ _ ka0
            have za_w2 := za
            replace zb : w.heap.size + 1 < w2.heap.size := World.block_lt_of_cell? _ _ kb0
            have zb_w2 := zb
            replace zr : w.heap.size + 1 + 1 < w2.heap.size := World.block_lt_of_cell? _ _ kr0
            have zr_w2 := zr
            replace hb0 : Below w.heap.size w w2 := (by repeat (first | with_reducible exact Below.refl _ _ | with_reducible assumption | with_reducible refine Below.setCell ?_ (by first | omega | (simp <;> omega)) _ | with_reducible refine balloc ?_ _ | with_reducible refine Below.drew ?_ | with_reducible refine bstep ?_ (by with_reducible assumption)))
            have hs_w2 : w1.heap.size ≤ w2.heap.size := hb.size
            clear hb
            rw [h2]
            go_wp2
            refine bodyPost_ret (v := .tuple #[.agg #[(.int .i64 0), (.int .i64 0), .slice none 0 0], (.int .i64 6)]) ?_ rfl ⟨_, rfl, Spans.nil _, Fresh.nil _, (by repeat (first | with_reducible exact Below.refl _ _ | with_reducible assumption | with_reducible refine Below.setCell ?_ (by first | omega | (simp <;> omega)) _ | with_reducible refine balloc ?_ _ | with_reducible refine Below.drew ?_ | with_reducible refine bstep ?_ (by with_reducible assumption)))⟩
            simp [results, Try.results48, go_sem, kr0, kr1, kr2, zr]
          · obtain rfl : s = s2 := by simpa using h3
            obtain rfl : p = p2 := by simpa using h4
            have h5' : l2.length = l.length := by simpa using (of_decide_eq_true h5).symm
            obtain ⟨⟨vs1, vs2⟩, ⟨vp1, vp2⟩, ⟨vn1, vn2⟩, _, vall⟩ := vaT_iff.1 h1
            obtain ⟨_, _, _, _, vall2⟩ := vaT_iff.1 h2
            obtain ⟨b, off, rfl, hr⟩ := hp (by omega)
            obtain ⟨b2, off2, rfl, hr2⟩ := hp2 (by omega)
            have hbl := hr.lt (by omega)
            have hbl2 := hr2.lt (by omega)
            have al : tAl s p l s p l2 = true := by unfold tAl; rw [h5]; simp
            have ok : tOk s p l s p l2 = true := by unfold tOk; rw [h1, h2]; rfl
            rw [al, ok]
            have te : ∀ g E, tErr true true g E = erv true g E := fun _ _ => rfl
            rw [te]
            simp only [Bool.true_and]
            have CC : ∀ W, Below w.heap.size w W → Calls Try.prog 68 #[.agg #[(.int .i64 s), (.int .i64 p), .slice (some ⟨b, off, none⟩) l.length cap], .func (.func 49) #[] #[], .func (.func 63) #[.agg #[(.int .i64 s), (.int .i64 p), .slice (some ⟨b2, off2, none⟩) l.length cap2]] #[]] W (CmbP W s p l.length (fun k => rM (gt l k).1 (gt l k).2 (gt l2 k).1 (gt l2 k).2) (fun k => mt (gt l k) (gt l2 k)) 18) := fun W h => by
                have HW := combM_c s p b off cap l s p b2 off2 cap2 l2 (fun k => rM (gt l k).1 (gt l k).2 (gt l2 k).1 (gt l2 k).2) (fun k => mt (gt l k) (gt l2 k)) 18 (by omega) W (by omega) (by omega) (hr.below hbl h) h5' (hr2.below hbl2 h) (fun k hk W => meet_c (gt l k).1 (gt l k).2 (gt l2 k).1 (gt l2 k).2 W (all_gt' vall k) (all_gt' vall2 k))
                exact HW
            clear al ok te hp hp2 hn hn2 h3 h4 h5
            simp only [h5'] at VB ⊢
            have HL := Lib.hid h5'
            clear h5' hcap2 hl2
            go_enter Try.func48, Try.ntmps48
            go_wp2_with fail
            refine Calls.mono (VA _ (by repeat (first | with_reducible exact Below.refl _ _ | with_reducible assumption | with_reducible refine Below.setCell ?_ (by first | omega | (simp <;> omega)) _ | with_reducible refine balloc ?_ _ | with_reducible refine Below.drew ?_ | with_reducible refine bstep ?_ (by with_reducible assumption)))) ?_
            rintro e w1 ⟨rfl, hb⟩
            have ka0 : w1.cell? ⟨w.heap.size, 0, none⟩ = some (.int .i64 s) := cell_later hb (by go_simp)
            have ka1 : w1.cell? ⟨w.heap.size, 1, none⟩ = some (.int .i64 p) := cell_later hb (by go_simp)
            have ka2 : w1.cell? ⟨w.heap.size, 2, none⟩ = some (.slice (some ⟨b, off, none⟩) l.length cap) := cell_later hb (by go_simp)
            have kb0 : w1.cell? ⟨w.heap.size + 1, 0, none⟩ = some (.int .i64 s) := cell_later hb (by go_simp)
            have kb1 : w1.cell? ⟨w.heap.size + 1, 1, none⟩ = some (.int .i64 p) := cell_later hb (by go_simp)
            have kb2 : w1.cell? ⟨w.heap.size + 1, 2, none⟩ = some (.slice (some ⟨b2, off2, none⟩) l.length cap2) := cell_later hb (by go_simp)
            have kr0 : w1.cell? ⟨w.heap.size + 1 + 1, 0, none⟩ = some (.int .i64 0) := cell_later hb (by go_simp)
            have jr0 : w1.frozen? ⟨w.heap.size + 1 + 1, 0, none⟩ = false := by rw [(bcell hb).2 _ _ (by first | omega | (simp <;> omega))]; go_simp
            have kr1 : w1.cell? ⟨w.heap.size + 1 + 1, 1, none⟩ = some (.int .i64 0) := cell_later hb (by go_simp)
            have jr1 : w1.frozen? ⟨w.heap.size + 1 + 1, 1, none⟩ = false := by rw [(bcell hb).2 _ _ (by first | omega | (simp <;> omega))]; go_simp
            have kr2 : w1.cell? ⟨w.heap.size + 1 + 1, 2, none⟩ = some (.slice none 0 0) := cell_later hb (by go_simp)
            have jr2 : w1.frozen? ⟨w.heap.size + 1 + 1, 2, none⟩ = false := by rw [(bcell hb).2 _ _ (by first | omega | (simp <;> omega))]; go_simp
            have za : w.heap.size < w1.heap.size := World.block_lt_of_cell? _ _ ka0
            have za_w1 := za
            have zb : w.heap.size + 1 < w1.heap.size := World.block_lt_of_cell? _ _ kb0
            have zb_w1 := zb
            have zr : w.heap.size + 1 + 1 < w1.heap.size := World.block_lt_of_cell? _ _ kr0
            have zr_w1 := zr
            have hb0 : Below w.heap.size w w1 := (by repeat (first | with_reducible exact Below.refl _ _ | with_reducible assumption | with_reducible refine Below.setCell ?_ (by first | omega | (simp <;> omega)) _ | with_reducible refine balloc ?_ _ | with_reducible refine Below.drew ?_ | with_reducible refine bstep ?_ (by with_reducible assumption)))
            have hs_w1 := hb.size; (try simp only [World.size_alloc, World.size_setCell] at hs_w1)
            clear hb
            rw [h1]
            go_wp2_with fail
            refine Calls.mono (VB _ (by repeat (first | with_reducible exact Below.refl _ _ | with_reducible assumption | with_reducible refine Below.setCell ?_ (by first | omega | (simp <;> omega)) _ | with_reducible refine balloc ?_ _ | with_reducible refine Below.drew ?_ | with_reducible refine bstep ?_ (by with_reducible assumption)))) ?_
            rintro e w2 ⟨rfl, hb⟩
            replace ka0 := cell_later hb ka0
            replace ka1 := cell_later hb ka1
            replace ka2 := cell_later hb ka2
            replace kb0 := cell_later hb kb0
            replace kb1 := cell_later hb kb1
            replace kb2 := cell_later hb kb2
            replace jr0 := fro_later hb kr0 jr0
            replace kr0 := cell_later hb kr0
            replace jr1 := fro_later hb kr1 jr1
            replace kr1 := cell_later hb kr1
            replace jr2 := fro_later hb kr2 jr2
            replace kr2 := cell_later hb kr2
            replace za : w.heap.size < w2.heap.size := World.block_lt_of_cell? _ _ ka0
            have za_w2 := za
            replace zb : w.heap.size + 1 < w2.heap.size := World.block_lt_of_cell? _ _ kb0
            have zb_w2 := zb
            replace zr : w.heap.size + 1 + 1 < w2.heap.size := World.block_lt_of_cell? _ _ kr0
            have zr_w2 := zr
            replace hb0 : Below w.heap.size w w2 := (by repeat (first | with_reducible exact Below.refl _ _ | with_reducible assumption | with_reducible refine Below.setCell ?_ (by first | omega | (simp <;> omega)) _ | with_reducible refine balloc ?_ _ | with_reducible refine Below.drew ?_ | with_reducible refine bstep ?_ (by with_reducible assumption)))
            have hs_w2 : w1.heap.size ≤ w2.heap.size := hb.size
            clear hb
            rw [h2]
            go_wp2_with fail
            refine Calls.mono (CC _ hb0) ?_
            rintro e w3 ⟨v3, rfl, hsp, hfr, hb⟩
            replace ka0 := cell_later hb ka0
            replace ka1 := cell_later hb ka1
            replace ka2 := cell_later hb ka2
            replace kb0 := cell_later hb kb0
            replace kb1 := cell_later hb kb1
            replace kb2 := cell_later hb kb2
            replace jr0 := fro_later hb kr0 jr0
            replace kr0 := cell_later hb kr0
            replace jr1 := fro_later hb kr1 jr1
            replace kr1 := cell_later hb kr1
            replace jr2 := fro_later hb kr2 jr2
            replace kr2 := cell_later hb kr2
            replace za : w.heap.size < w3.heap.size := World.block_lt_of_cell? _ _ ka0
            have za_w3 := za
            replace zb : w.heap.size + 1 < w3.heap.size := World.block_lt_of_cell? _ _ kb0
            have zb_w3 := zb
            replace zr : w.heap.size + 1 + 1 < w3.heap.size := World.block_lt_of_cell? _ _ kr0
            have zr_w3 := zr
            replace hb0 : Below w.heap.size w w3 := (by repeat (first | with_reducible exact Below.refl _ _ | with_reducible assumption | with_reducible refine Below.setCell ?_ (by first | omega | (simp <;> omega)) _ | with_reducible refine balloc ?_ _ | with_reducible refine Below.drew ?_ | with_reducible refine bstep ?_ (by with_reducible assumption)))
            have hs_w3 : w2.heap.size ≤ w3.heap.size := hb.size
            clear hb
            generalize hAA : allG (fun k => rM (gt l k).1 (gt l k).2 (gt l2 k).1 (gt l2 k).2) l.length = aa at *
            have HAA := Lib.hid hAA
            generalize hL3 : (bif aa then upto (fun k => mt (gt l k) (gt l2 k)) l.length else []) = L3 at *
            have HL3 : Hid ((bif aa then mL l l2 else []) = L3) := Lib.hid hL3
            obtain ⟨⟨p3, c3, rfl, hn3, hc3, hp3⟩, hl3⟩ := id hsp
            clear hAA hp3 hn3 hL3
            go_wp2
            unfold TwP
            have hG : mG l l2 = aa := HAA.out
            rw [hG, HL3.out]
            have hfin : Below w.heap.size w w3 := hb0
            refine bodyPost_ret (v := .tuple #[.agg #[(.int .i64 (selI aa s)), (.int .i64 (selI aa p)), .slice p3 L3.length c3], (.int .i64 (erv true aa 18))]) ?_ rfl ?_
            · simp [results, Try.results48, go_sem, kr0, kr1, kr2, zr]
            · exact ⟨_, rfl, sp_set (sp_set (sp_set hsp hfr zr_w2) hfr zr_w2) hfr zr_w2, hfr.le (by omega), (by repeat (first | with_reducible exact Below.refl _ _ | with_reducible assumption | with_reducible refine Below.setCell ?_ (by first | omega | (simp <;> omega)) _ | with_reducible refine balloc ?_ _ | with_reducible refine Below.drew ?_ | with_reducible refine bstep ?_ (by with_reducible assumption)))⟩


end Go.Proofs.Ytemogomligbgiaa.Ti
