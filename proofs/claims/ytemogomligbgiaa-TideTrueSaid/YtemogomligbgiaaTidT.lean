/- TidT: Meet, Join, Shift. -/
import Derived.Test.YtemogomligbgiaaTidS
import Derived.Test.YtemogomligbgiaaTidQ
import Derived.Test.YtemogomligbgiaaRows
import Derived.WalkKit
import Derived.WalkSpells
import Derived.WalkLawsBesides
import Derived.Lib.Hide
import Derived.Deep.QuietTactic
import Derived.BigQuiet
import Derived.RegionTactic
import Derived.ChangeAlike
import Derived.BigRegion
import Derived.Deep.RegionHeld3
import Derived.Deep.RegionWith
import Derived.Outline
import Derived.IntWalk
import Derived.Deep.DeepCutAuto
import Derived.LoopTactic
namespace Go.Proofs.Ytemogomligbgiaa.Ti
open Go.RowKit Sp
set_option linter.unusedSimpArgs false
set_option linter.unusedVariables false

set_option maxRecDepth 100000 in
set_option maxHeartbeats 3200000 in
theorem Meet_c (s p : Int) (v : Value) (l : List Pr) (s2 p2 : Int) (v2 : Value) (l2 : List Pr) (w : World) (hv : Spans w v l) (hv2 : Spans w v2 l2) :
    Calls Try.prog 22 #[.agg #[(.int .i64 s), (.int .i64 p), v], .agg #[(.int .i64 s2), (.int .i64 p2), v2]] w (TwP w s p (mL l l2) (tOk s p l s2 p2 l2 && (tAl s p l s2 p2 l2 && mG l l2)) (tErr (tOk s p l s2 p2 l2) (tAl s p l s2 p2 l2) (mG l l2) 18)) := by
  have CC := fun W h => togM_c s p v l s2 p2 v2 l2 W (hv.below h) (hv2.below h)
  generalize (tErr (tOk s p l s2 p2 l2) (tAl s p l s2 p2 l2) (mG l l2) 18) = err at *
  generalize (tOk s p l s2 p2 l2 && (tAl s p l s2 p2 l2 && mG l l2)) = A at *
  obtain ⟨⟨pp, cap, rfl, hn, hcap, hp⟩, hl⟩ := hv
  obtain ⟨⟨pp2, cap2, rfl, hn2, hcap2, hp2⟩, hl2⟩ := hv2
  clear hn hp hn2 hp2
  go_enter Try.func22, Try.ntmps22
  go_wp2_with fail
  refine Calls.mono (CC _ (by repeat (first | with_reducible exact Below.refl _ _ | with_reducible assumption | with_reducible refine Below.setCell ?_ (by first | omega | (simp <;> omega)) _ | with_reducible refine balloc ?_ _ | with_reducible refine Below.drew ?_ | with_reducible refine bstep ?_ (by with_reducible assumption)))) ?_
  rintro e w1 ⟨v3, rfl, hsp, hfr, hb⟩
  have ka0 : w1.cell? ⟨w.heap.size, 0, none⟩ = some (.int .i64 s) := cell_later hb (by go_simp)
  have ka1 : w1.cell? ⟨w.heap.size, 1, none⟩ = some (.int .i64 p) := cell_later hb (by go_simp)
  have ka2 : w1.cell? ⟨w.heap.size, 2, none⟩ = some (.slice pp l.length cap) := cell_later hb (by go_simp)
  have kb0 : w1.cell? ⟨w.heap.size + 1, 0, none⟩ = some (.int .i64 s2) := cell_later hb (by go_simp)
  have kb1 : w1.cell? ⟨w.heap.size + 1, 1, none⟩ = some (.int .i64 p2) := cell_later hb (by go_simp)
  have kb2 : w1.cell? ⟨w.heap.size + 1, 2, none⟩ = some (.slice pp2 l2.length cap2) := cell_later hb (by go_simp)
  have kr0 : w1.cell? ⟨w.heap.size + 1 + 1, 0, none⟩ = some (.int .i64 0) := cell_later hb (by go_simp)
  have jr0 : w1.frozen? ⟨w.heap.size + 1 + 1, 0, none⟩ = false := by rw [(bcell hb).2 _ _ (by first | omega | (simp <;> omega))]; go_simp
  have kr1 : w1.cell? ⟨w.heap.size + 1 + 1, 1, none⟩ = some (.int .i64 0) := cell_later hb (by go_simp)
  have jr1 : w1.frozen? ⟨w.heap.size + 1 + 1, 1, none⟩ = false := by rw [(bcell hb).2 _ _ (by first | omega | (simp <;> omega))]; go_simp
  have kr2 : w1.cell? ⟨w.heap.size + 1 + 1, 2, none⟩ = some (.slice none 0 0) := cell_later hb (by go_simp)
  have jr2 : w1.frozen? ⟨w.heap.size + 1 + 1, 2, none⟩ = false := by rw [(bcell hb).2 _ _ (by first | omega | (simp <;> omega))]; go_simp
  have za : w.heap.size < w1.heap.size := World.block_lt_of_cell? _ _ ka0
  have za_w1 := za
  have zb : w.heap.size + 1 < w1.heap.size := World.block_lt_of_cell? _ _ kb0
  have zb_w1 := zb
  have zr : w.heap.size + 1 + 1 < w1.heap.size := World.block_lt_of_cell? _ _ kr0
  have zr_w1 := zr
  have hb0 : Below w.heap.size w w1 := (by repeat (first | with_reducible exact Below.refl _ _ | with_reducible assumption | with_reducible refine Below.setCell ?_ (by first | omega | (simp <;> omega)) _ | with_reducible refine balloc ?_ _ | with_reducible refine Below.drew ?_ | with_reducible refine bstep ?_ (by with_reducible assumption)))
  have hs_w1 := hb.size; (try simp only [World.size_alloc, World.size_setCell] at hs_w1)
  clear hb
  obtain ⟨L3, hL3⟩ : ∃ L3, (bif A then mL l l2 else []) = L3 := ⟨_, rfl⟩
  simp only [hL3] at hsp
  obtain ⟨⟨p3, c3, rfl, hn3, hc3, hp3⟩, hl3⟩ := id hsp
  clear hp3 hn3 CC
  have HL3 := Lib.hid hL3
  clear hL3
  go_wp2
  unfold TwP
  rw [HL3.out]
  have hfin : Below w.heap.size w w1 := hb0
  have hzr : w.heap.size + 1 + 1 < w.heap.size + 1 + 1 + 1 := by omega
  refine bodyPost_ret (v := .tuple #[.agg #[(.int .i64 (selI A s)), (.int .i64 (selI A p)), .slice p3 L3.length c3], (.int .i64 err)]) ?_ rfl ?_
  · simp [results, Try.results22, go_sem, kr0, kr1, kr2, zr]
  · exact ⟨_, rfl, sp_set (sp_set (sp_set hsp hfr (by simp)) hfr (by simp)) hfr (by simp), hfr.le (by simp; omega), (by repeat (first | with_reducible exact Below.refl _ _ | with_reducible assumption | with_reducible refine Below.setCell ?_ (by first | omega | (simp <;> omega)) _ | with_reducible refine balloc ?_ _ | with_reducible refine Below.drew ?_ | with_reducible refine bstep ?_ (by with_reducible assumption)))⟩

set_option maxRecDepth 100000 in
set_option maxHeartbeats 3200000 in
theorem Join_c (s p : Int) (v : Value) (l : List Pr) (s2 p2 : Int) (v2 : Value) (l2 : List Pr) (w : World) (hv : Spans w v l) (hv2 : Spans w v2 l2) :
    Calls Try.prog 25 #[.agg #[(.int .i64 s), (.int .i64 p), v], .agg #[(.int .i64 s2), (.int .i64 p2), v2]] w (TwP w s p (jL l l2) (tOk s p l s2 p2 l2 && (tAl s p l s2 p2 l2 && allG (fun _ => true) l.length)) (tErr (tOk s p l s2 p2 l2) (tAl s p l s2 p2 l2) (allG (fun _ => true) l.length) 1)) := by
  have CC := fun W h => togJ_c s p v l s2 p2 v2 l2 W (hv.below h) (hv2.below h)
  generalize (tErr (tOk s p l s2 p2 l2) (tAl s p l s2 p2 l2) (allG (fun _ => true) l.length) 1) = err at *
  generalize (tOk s p l s2 p2 l2 && (tAl s p l s2 p2 l2 && allG (fun _ => true) l.length)) = A at *
  obtain ⟨⟨pp, cap, rfl, hn, hcap, hp⟩, hl⟩ := hv
  obtain ⟨⟨pp2, cap2, rfl, hn2, hcap2, hp2⟩, hl2⟩ := hv2
  clear hn hp hn2 hp2
  go_enter Try.func25, Try.ntmps25
  go_wp2_with fail
  refine Calls.mono (CC _ (by repeat (first | with_reducible exact Below.refl _ _ | with_reducible assumption | with_reducible refine Below.setCell ?_ (by first | omega | (simp <;> omega)) _ | with_reducible refine balloc ?_ _ | with_reducible refine Below.drew ?_ | with_reducible refine bstep ?_ (by with_reducible assumption)))) ?_
  rintro e w1 ⟨v3, rfl, hsp, hfr, hb⟩
  have ka0 : w1.cell? ⟨w.heap.size, 0, none⟩ = some (.int .i64 s) := cell_later hb (by go_simp)
  have ka1 : w1.cell? ⟨w.heap.size, 1, none⟩ = some (.int .i64 p) := cell_later hb (by go_simp)
  have ka2 : w1.cell? ⟨w.heap.size, 2, none⟩ = some (.slice pp l.length cap) := cell_later hb (by go_simp)
  have kb0 : w1.cell? ⟨w.heap.size + 1, 0, none⟩ = some (.int .i64 s2) := cell_later hb (by go_simp)
  have kb1 : w1.cell? ⟨w.heap.size + 1, 1, none⟩ = some (.int .i64 p2) := cell_later hb (by go_simp)
  have kb2 : w1.cell? ⟨w.heap.size + 1, 2, none⟩ = some (.slice pp2 l2.length cap2) := cell_later hb (by go_simp)
  have kr0 : w1.cell? ⟨w.heap.size + 1 + 1, 0, none⟩ = some (.int .i64 0) := cell_later hb (by go_simp)
  have jr0 : w1.frozen? ⟨w.heap.size + 1 + 1, 0, none⟩ = false := by rw [(bcell hb).2 _ _ (by first | omega | (simp <;> omega))]; go_simp
  have kr1 : w1.cell? ⟨w.heap.size + 1 + 1, 1, none⟩ = some (.int .i64 0) := cell_later hb (by go_simp)
  have jr1 : w1.frozen? ⟨w.heap.size + 1 + 1, 1, none⟩ = false := by rw [(bcell hb).2 _ _ (by first | omega | (simp <;> omega))]; go_simp
  have kr2 : w1.cell? ⟨w.heap.size + 1 + 1, 2, none⟩ = some (.slice none 0 0) := cell_later hb (by go_simp)
  have jr2 : w1.frozen? ⟨w.heap.size + 1 + 1, 2, none⟩ = false := by rw [(bcell hb).2 _ _ (by first | omega | (simp <;> omega))]; go_simp
  have za : w.heap.size < w1.heap.size := World.block_lt_of_cell? _ _ ka0
  have za_w1 := za
  have zb : w.heap.size + 1 < w1.heap.size := World.block_lt_of_cell? _ _ kb0
  have zb_w1 := zb
  have zr : w.heap.size + 1 + 1 < w1.heap.size := World.block_lt_of_cell? _ _ kr0
  have zr_w1 := zr
  have hb0 : Below w.heap.size w w1 := (by repeat (first | with_reducible exact Below.refl _ _ | with_reducible assumption | with_reducible refine Below.setCell ?_ (by first | omega | (simp <;> omega)) _ | with_reducible refine balloc ?_ _ | with_reducible refine Below.drew ?_ | with_reducible refine bstep ?_ (by with_reducible assumption)))
  have hs_w1 := hb.size; (try simp only [World.size_alloc, World.size_setCell] at hs_w1)
  clear hb
  obtain ⟨L3, hL3⟩ : ∃ L3, (bif A then jL l l2 else []) = L3 := ⟨_, rfl⟩
  simp only [hL3] at hsp
  obtain ⟨⟨p3, c3, rfl, hn3, hc3, hp3⟩, hl3⟩ := id hsp
  clear hp3 hn3 CC
  have HL3 := Lib.hid hL3
  clear hL3
  go_wp2
  unfold TwP
  rw [HL3.out]
  have hfin : Below w.heap.size w w1 := hb0
  have hzr : w.heap.size + 1 + 1 < w.heap.size + 1 + 1 + 1 := by omega
  refine bodyPost_ret (v := .tuple #[.agg #[(.int .i64 (selI A s)), (.int .i64 (selI A p)), .slice p3 L3.length c3], (.int .i64 err)]) ?_ rfl ?_
  · simp [results, Try.results25, go_sem, kr0, kr1, kr2, zr]
  · exact ⟨_, rfl, sp_set (sp_set (sp_set hsp hfr (by simp)) hfr (by simp)) hfr (by simp), hfr.le (by simp; omega), (by repeat (first | with_reducible exact Below.refl _ _ | with_reducible assumption | with_reducible refine Below.setCell ?_ (by first | omega | (simp <;> omega)) _ | with_reducible refine balloc ?_ _ | with_reducible refine Below.drew ?_ | with_reducible refine bstep ?_ (by with_reducible assumption)))⟩

def pl (a y : Pr) : Pr := (a.1 + y.1, a.2 + y.2)
def sOk (s p : Int) (l : List Pr) (y : Pr) : Bool := vaT s p l && vE 1000000000000 y.1 y.2
def sG (l : List Pr) (y : Pr) : Bool := allG (fun k => okH (pl (gt l k) y)) l.length
def sL (l : List Pr) (y : Pr) : List Pr := upto (fun k => pl (gt l k) y) l.length
set_option maxRecDepth 100000 in
set_option maxHeartbeats 6400000 in
theorem Shift_c (s p : Int) (v : Value) (l : List Pr) (y1 y2 : Int) (w : World) (hv : Spans w v l) :
    Calls Try.prog 27 #[.agg #[(.int .i64 s), (.int .i64 p), v], .agg #[(.int .i64 y1), (.int .i64 y2)]] w (TwP w s p (sL l (y1, y2)) (sOk s p l (y1, y2) && sG l (y1, y2)) (erv (sOk s p l (y1, y2)) (sG l (y1, y2)) 3)) := by
  have VA : ∀ W, Below w.heap.size w W → Calls Try.prog 14 #[.agg #[(.int .i64 s), (.int .i64 p), v]] W (Ret W (.bool (vaT s p l))) := fun W h => valid_c s p v l W (hv.below h)
  obtain ⟨⟨pp, cap, rfl, hn, hcap, hp⟩, hl⟩ := hv
  cases h1 : vaT s p l
  · rw [show erv (sOk s p l (y1, y2)) (sG l (y1, y2)) 3 = 1 by unfold sOk; rw [h1]; simp [erv], show (sOk s p l (y1, y2) && sG l (y1, y2)) = false by unfold sOk; rw [h1]; simp]
    clear hp hn
    have tf : ∀ x, selI false x = 0 := fun _ => rfl
    unfold TwP
    rw [tf, tf]
    clear tf
    go_enter Try.func27, Try.ntmps27
    go_wp2_with fail
    refine Calls.mono (VA _ (by repeat (first | with_reducible exact Below.refl _ _ | with_reducible assumption | with_reducible refine Below.setCell ?_ (by first | omega | (simp <;> omega)) _ | with_reducible refine balloc ?_ _ | with_reducible refine Below.drew ?_ | with_reducible refine bstep ?_ (by with_reducible assumption)))) ?_
    rintro e w1 ⟨rfl, hb⟩
    have ka0 : w1.cell? ⟨w.heap.size, 0, none⟩ = some (.int .i64 s) := cell_later hb (by go_simp)
    have ka1 : w1.cell? ⟨w.heap.size, 1, none⟩ = some (.int .i64 p) := cell_later hb (by go_simp)
    have ka2 : w1.cell? ⟨w.heap.size, 2, none⟩ = some (.slice pp l.length cap) := cell_later hb (by go_simp)
    have kb0 : w1.cell? ⟨w.heap.size + 1, 0, none⟩ = some (.int .i64 y1) := cell_later hb (by go_simp)
    have kb1 : w1.cell? ⟨w.heap.size + 1, 1, none⟩ = some (.int .i64 y2) := cell_later hb (by go_simp)
    have kr0 : w1.cell? ⟨w.heap.size + 1 + 1, 0, none⟩ = some (.int .i64 0) := cell_later hb (by go_simp)
    have jr0 : w1.frozen? ⟨w.heap.size + 1 + 1, 0, none⟩ = false := by rw [(bcell hb).2 _ _ (by first | omega | (simp <;> omega))]; go_simp
    have kr1 : w1.cell? ⟨w.heap.size + 1 + 1, 1, none⟩ = some (.int .i64 0) := cell_later hb (by go_simp)
    have jr1 : w1.frozen? ⟨w.heap.size + 1 + 1, 1, none⟩ = false := by rw [(bcell hb).2 _ _ (by first | omega | (simp <;> omega))]; go_simp
    have kr2 : w1.cell? ⟨w.heap.size + 1 + 1, 2, none⟩ = some (.slice none 0 0) := cell_later hb (by go_simp)
    have jr2 : w1.frozen? ⟨w.heap.size + 1 + 1, 2, none⟩ = false := by rw [(bcell hb).2 _ _ (by first | omega | (simp <;> omega))]; go_simp
    have za : w.heap.size < w1.heap.size := World.block_lt_of_cell? _ _ ka0
    have za_w1 := za
    have zb : w.heap.size + 1 < w1.heap.size := World.block_lt_of_cell? _ _ kb0
    have zb_w1 := zb
    have zr : w.heap.size + 1 + 1 < w1.heap.size := World.block_lt_of_cell? _ _ kr0
    have zr_w1 := zr
    have hb0 : Below w.heap.size w w1 := (by repeat (first | with_reducible exact Below.refl _ _ | with_reducible assumption | with_reducible refine Below.setCell ?_ (by first | omega | (simp <;> omega)) _ | with_reducible refine balloc ?_ _ | with_reducible refine Below.drew ?_ | with_reducible refine bstep ?_ (by with_reducible assumption)))
    have hs_w1 := hb.size; (try simp only [World.size_alloc, World.size_setCell] at hs_w1)
    clear hb
    rw [h1]
    go_wp2
    refine bodyPost_ret (v := .tuple #[.agg #[(.int .i64 0), (.int .i64 0), .slice none 0 0], (.int .i64 1)]) ?_ rfl ⟨_, rfl, Spans.nil _, Fresh.nil _, (by repeat (first | with_reducible exact Below.refl _ _ | with_reducible assumption | with_reducible refine Below.setCell ?_ (by first | omega | (simp <;> omega)) _ | with_reducible refine balloc ?_ _ | with_reducible refine Below.drew ?_ | with_reducible refine bstep ?_ (by with_reducible assumption)))⟩
    simp [results, Try.results27, go_sem, kr0, kr1, kr2, zr]
  · cases h2 : vE 1000000000000 y1 y2
    · rw [show erv (sOk s p l (y1, y2)) (sG l (y1, y2)) 3 = 1 by unfold sOk; rw [h1, h2]; simp [erv], show (sOk s p l (y1, y2) && sG l (y1, y2)) = false by unfold sOk; rw [h1, h2]; simp]
      clear hp hn
      have tf : ∀ x, selI false x = 0 := fun _ => rfl
      unfold TwP
      rw [tf, tf]
      clear tf
      go_enter Try.func27, Try.ntmps27
      go_wp2_with fail
      refine Calls.mono (VA _ (by repeat (first | with_reducible exact Below.refl _ _ | with_reducible assumption | with_reducible refine Below.setCell ?_ (by first | omega | (simp <;> omega)) _ | with_reducible refine balloc ?_ _ | with_reducible refine Below.drew ?_ | with_reducible refine bstep ?_ (by with_reducible assumption)))) ?_
      rintro e w1 ⟨rfl, hb⟩
      have ka0 : w1.cell? ⟨w.heap.size, 0, none⟩ = some (.int .i64 s) := cell_later hb (by go_simp)
      have ka1 : w1.cell? ⟨w.heap.size, 1, none⟩ = some (.int .i64 p) := cell_later hb (by go_simp)
      have ka2 : w1.cell? ⟨w.heap.size, 2, none⟩ = some (.slice pp l.length cap) := cell_later hb (by go_simp)
      have kb0 : w1.cell? ⟨w.heap.size + 1, 0, none⟩ = some (.int .i64 y1) := cell_later hb (by go_simp)
      have kb1 : w1.cell? ⟨w.heap.size + 1, 1, none⟩ = some (.int .i64 y2) := cell_later hb (by go_simp)
      have kr0 : w1.cell? ⟨w.heap.size + 1 + 1, 0, none⟩ = some (.int .i64 0) := cell_later hb (by go_simp)
      have jr0 : w1.frozen? ⟨w.heap.size + 1 + 1, 0, none⟩ = false := by rw [(bcell hb).2 _ _ (by first | omega | (simp <;> omega))]; go_simp
      have kr1 : w1.cell? ⟨w.heap.size + 1 + 1, 1, none⟩ = some (.int .i64 0) := cell_later hb (by go_simp)
      have jr1 : w1.frozen? ⟨w.heap.size + 1 + 1, 1, none⟩ = false := by rw [(bcell hb).2 _ _ (by first | omega | (simp <;> omega))]; go_simp
      have kr2 : w1.cell? ⟨w.heap.size + 1 + 1, 2, none⟩ = some (.slice none 0 0) := cell_later hb (by go_simp)
      have jr2 : w1.frozen? ⟨w.heap.size + 1 + 1, 2, none⟩ = false := by rw [(bcell hb).2 _ _ (by first | omega | (simp <;> omega))]; go_simp
      have za : w.heap.size < w1.heap.size := World.block_lt_of_cell? _ _ ka0
      have za_w1 := za
      have zb : w.heap.size + 1 < w1.heap.size := World.block_lt_of_cell? _ _ kb0
      have zb_w1 := zb
      have zr : w.heap.size + 1 + 1 < w1.heap.size := World.block_lt_of_cell? _ _ kr0
      have zr_w1 := zr
      have hb0 : Below w.heap.size w w1 := (by repeat (first | with_reducible exact Below.refl _ _ | with_reducible assumption | with_reducible refine Below.setCell ?_ (by first | omega | (simp <;> omega)) _ | with_reducible refine balloc ?_ _ | with_reducible refine Below.drew ?_ | with_reducible refine bstep ?_ (by with_reducible assumption)))
      have hs_w1 := hb.size; (try simp only [World.size_alloc, World.size_setCell] at hs_w1)
      clear hb
      rw [h1]
      go_wp2_with fail
      refine Calls.mono (Sp.valid_c y1 y2 _) ?_
      rintro e w2 ⟨rfl, hb⟩
      replace ka0 := cell_later hb ka0
      replace ka1 := cell_later hb ka1
      replace ka2 := cell_later hb ka2
      replace kb0 := cell_later hb kb0
      replace kb1 := cell_later hb kb1
      replace jr0 := fro_later hb kr0 jr0
      replace kr0 := cell_later hb kr0
      replace jr1 := fro_later hb kr1 jr1
      replace kr1 := cell_later hb kr1
      replace jr2 := fro_later hb kr2 jr2
      replace kr2 := cell_later hb kr2
      replace za : w.heap.size < w2.heap.size := World.block_lt_of_cell? _ _ ka0
      have za_w2 := za
      replace zb : w.heap.size + 1 < w2.heap.size := World.block_lt_of_cell? _ _ kb0
      have zb_w2 := zb
      replace zr : w.heap.size + 1 + 1 < w2.heap.size := World.block_lt_of_cell? _ _ kr0
      have zr_w2 := zr
      replace hb0 : Below w.heap.size w w2 := (by repeat (first | with_reducible exact Below.refl _ _ | with_reducible assumption | with_reducible refine Below.setCell ?_ (by first | omega | (simp <;> omega)) _ | with_reducible refine balloc ?_ _ | with_reducible refine Below.drew ?_ | with_reducible refine bstep ?_ (by with_reducible assumption)))
      have hs_w2 : w1.heap.size ≤ w2.heap.size := hb.size
      clear hb
      rw [h2]
      go_wp2
      refine bodyPost_ret (v := .tuple #[.agg #[(.int .i64 0), (.int .i64 0), .slice none 0 0], (.int .i64 1)]) ?_ rfl ⟨_, rfl, Spans.nil _, Fresh.nil _, (by repeat (first | with_reducible exact Below.refl _ _ | with_reducible assumption | with_reducible refine Below.setCell ?_ (by first | omega | (simp <;> omega)) _ | with_reducible refine balloc ?_ _ | with_reducible refine Below.drew ?_ | with_reducible refine bstep ?_ (by with_reducible assumption)))⟩
      simp [results, Try.results27, go_sem, kr0, kr1, kr2, zr]
    · obtain ⟨⟨vs1, vs2⟩, ⟨vp1, vp2⟩, ⟨vn1, vn2⟩, _, vall⟩ := vaT_iff.1 h1
      obtain ⟨b, off, rfl, hr⟩ := hp (by omega)
      have hbl := hr.lt (by omega)
      have ok : sOk s p l (y1, y2) = true := by unfold sOk; rw [h1, h2]; rfl
      rw [ok]
      simp only [Bool.true_and]
      have CC : ∀ W Bq, Below w.heap.size w W → W.cell? ⟨Bq, 0, none⟩ = some (.int .i64 y1) → W.cell? ⟨Bq, 1, none⟩ = some (.int .i64 y2) → Calls Try.prog 55 #[.agg #[(.int .i64 s), (.int .i64 p), .slice (some ⟨b, off, none⟩) l.length cap], .func (.func 56) #[] #[], .func (.func 54) #[] #[.pointer (some ⟨Bq, 0, none⟩)]] W (CmbP W s p l.length (fun k => okH (pl (gt l k) (y1, y2))) (fun k => pl (gt l k) (y1, y2)) 3) := fun W Bq h q0 q1 => combP_c s p b off cap l Bq y1 y2 (fun k => okH (pl (gt l k) (y1, y2))) (fun k => pl (gt l k) (y1, y2)) 3 (by omega) W (by omega) (by omega) (hr.below hbl h) q0 q1 (fun k hk W => plus_c (gt l k).1 (gt l k).2 y1 y2 W (all_gt' vall k) h2)
      clear ok hp hn
      go_enter Try.func27, Try.ntmps27
      go_wp2_with fail
      refine Calls.mono (VA _ (by repeat (first | with_reducible exact Below.refl _ _ | with_reducible assumption | with_reducible refine Below.setCell ?_ (by first | omega | (simp <;> omega)) _ | with_reducible refine balloc ?_ _ | with_reducible refine Below.drew ?_ | with_reducible refine bstep ?_ (by with_reducible assumption)))) ?_
      rintro e w1 ⟨rfl, hb⟩
      have ka0 : w1.cell? ⟨w.heap.size, 0, none⟩ = some (.int .i64 s) := cell_later hb (by go_simp)
      have ka1 : w1.cell? ⟨w.heap.size, 1, none⟩ = some (.int .i64 p) := cell_later hb (by go_simp)
      have ka2 : w1.cell? ⟨w.heap.size, 2, none⟩ = some (.slice (some ⟨b, off, none⟩) l.length cap) := cell_later hb (by go_simp)
      have kb0 : w1.cell? ⟨w.heap.size + 1, 0, none⟩ = some (.int .i64 y1) := cell_later hb (by go_simp)
      have kb1 : w1.cell? ⟨w.heap.size + 1, 1, none⟩ = some (.int .i64 y2) := cell_later hb (by go_simp)
      have kr0 : w1.cell? ⟨w.heap.size + 1 + 1, 0, none⟩ = some (.int .i64 0) := cell_later hb (by go_simp)
      have jr0 : w1.frozen? ⟨w.heap.size + 1 + 1, 0, none⟩ = false := by rw [(bcell hb).2 _ _ (by first | omega | (simp <;> omega))]; go_simp
      have kr1 : w1.cell? ⟨w.heap.size + 1 + 1, 1, none⟩ = some (.int .i64 0) := cell_later hb (by go_simp)
      have jr1 : w1.frozen? ⟨w.heap.size + 1 + 1, 1, none⟩ = false := by rw [(bcell hb).2 _ _ (by first | omega | (simp <;> omega))]; go_simp
      have kr2 : w1.cell? ⟨w.heap.size + 1 + 1, 2, none⟩ = some (.slice none 0 0) := cell_later hb (by go_simp)
      have jr2 : w1.frozen? ⟨w.heap.size + 1 + 1, 2, none⟩ = false := by rw [(bcell hb).2 _ _ (by first | omega | (simp <;> omega))]; go_simp
      have za : w.heap.size < w1.heap.size := World.block_lt_of_cell? _ _ ka0
      have za_w1 := za
      have zb : w.heap.size + 1 < w1.heap.size := World.block_lt_of_cell? _ _ kb0
      have zb_w1 := zb
      have zr : w.heap.size + 1 + 1 < w1.heap.size := World.block_lt_of_cell? _ _ kr0
      have zr_w1 := zr
      have hb0 : Below w.heap.size w w1 := (by repeat (first | with_reducible exact Below.refl _ _ | with_reducible assumption | with_reducible refine Below.setCell ?_ (by first | omega | (simp <;> omega)) _ | with_reducible refine balloc ?_ _ | with_reducible refine Below.drew ?_ | with_reducible refine bstep ?_ (by with_reducible assumption)))
      have hs_w1 := hb.size; (try simp only [World.size_alloc, World.size_setCell] at hs_w1)
      clear hb
      rw [h1]
      go_wp2_with fail
      refine Calls.mono (Sp.valid_c y1 y2 _) ?_
      rintro e w2 ⟨rfl, hb⟩
      replace ka0 := cell_later hb ka0
      replace ka1 := cell_later hb ka1
      replace ka2 := cell_later hb ka2
      replace kb0 := cell_later hb kb0
      replace kb1 := cell_later hb kb1
      replace jr0 := fro_later hb kr0 jr0
      replace kr0 := cell_later hb kr0
      replace jr1 := fro_later hb kr1 jr1
      replace kr1 := cell_later hb kr1
      replace jr2 := fro_later hb kr2 jr2
      replace kr2 := cell_later hb kr2
      replace za : w.heap.size < w2.heap.size := World.block_lt_of_cell? _ _ ka0
      have za_w2 := za
      replace zb : w.heap.size + 1 < w2.heap.size := World.block_lt_of_cell? _ _ kb0
      have zb_w2 := zb
      replace zr : w.heap.size + 1 + 1 < w2.heap.size := World.block_lt_of_cell? _ _ kr0
      have zr_w2 := zr
      replace hb0 : Below w.heap.size w w2 := (by repeat (first | with_reducible exact Below.refl _ _ | with_reducible assumption | with_reducible refine Below.setCell ?_ (by first | omega | (simp <;> omega)) _ | with_reducible refine balloc ?_ _ | with_reducible refine Below.drew ?_ | with_reducible refine bstep ?_ (by with_reducible assumption)))
      have hs_w2 : w1.heap.size ≤ w2.heap.size := hb.size
      clear hb
      rw [h2]
      go_wp2_with fail
      refine Calls.mono (CC _ _ hb0 kb0 kb1) ?_
      rintro e w3 ⟨v3, rfl, hsp, hfr, hb⟩
      replace ka0 := cell_later hb ka0
      replace ka1 := cell_later hb ka1
      replace ka2 := cell_later hb ka2
      replace kb0 := cell_later hb kb0
      replace kb1 := cell_later hb kb1
      replace jr0 := fro_later hb kr0 jr0
      replace kr0 := cell_later hb kr0
      replace jr1 := fro_later hb kr1 jr1
      replace kr1 := cell_later hb kr1
      replace jr2 := fro_later hb kr2 jr2
      replace kr2 := cell_later hb kr2
      replace za : w.heap.size < w3.heap.size := World.block_lt_of_cell? _ _ ka0
      have za_w3 := za
      replace zb : w.heap.size + 1 < w3.heap.size := World.block_lt_of_cell? _ _ kb0
      have zb_w3 := zb
      replace zr : w.heap.size + 1 + 1 < w3.heap.size := World.block_lt_of_cell? _ _ kr0
      have zr_w3 := zr
      replace hb0 : Below w.heap.size w w3 := (by repeat (first | with_reducible exact Below.refl _ _ | with_reducible assumption | with_reducible refine Below.setCell ?_ (by first | omega | (simp <;> omega)) _ | with_reducible refine balloc ?_ _ | with_reducible refine Below.drew ?_ | with_reducible refine bstep ?_ (by with_reducible assumption)))
      have hs_w3 : w2.heap.size ≤ w3.heap.size := hb.size
      clear hb
      generalize hAA : allG (fun k => okH (pl (gt l k) (y1, y2))) l.length = aa at *
      have HAA := Lib.hid hAA
      generalize hL3 : (bif aa then upto (fun k => pl (gt l k) (y1, y2)) l.length else []) = L3 at *
      have HL3 : Hid ((bif aa then sL l (y1, y2) else []) = L3) := Lib.hid hL3
      obtain ⟨⟨p3, c3, rfl, hn3, hc3, hp3⟩, hl3⟩ := id hsp
      clear hAA hp3 hn3 hL3 CC VA
      go_wp2
      unfold TwP
      have hG : sG l (y1, y2) = aa := HAA.out
      rw [hG, HL3.out]
      have hfin : Below w.heap.size w w3 := hb0
      refine bodyPost_ret (v := .tuple #[.agg #[(.int .i64 (selI aa s)), (.int .i64 (selI aa p)), .slice p3 L3.length c3], (.int .i64 (erv true aa 3))]) ?_ rfl ?_
      · simp [results, Try.results27, go_sem, kr0, kr1, kr2, zr]
      · exact ⟨_, rfl, sp_set (sp_set (sp_set hsp hfr zr_w2) hfr zr_w2) hfr zr_w2, hfr.le (by omega), (by repeat (first | with_reducible exact Below.refl _ _ | with_reducible assumption | with_reducible refine Below.setCell ?_ (by first | omega | (simp <;> omega)) _ | with_reducible refine balloc ?_ _ | with_reducible refine Below.drew ?_ | with_reducible refine bstep ?_ (by with_reducible assumption)))⟩


end Go.Proofs.Ytemogomligbgiaa.Ti
