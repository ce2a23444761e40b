/- TidP: combine by join. -/
import Derived.Test.YtemogomligbgiaaTidN
import Derived.Test.YtemogomligbgiaaRows
import Derived.WalkKit
import Derived.WalkSpells
import Derived.WalkLawsBesides
import Derived.Lib.Hide
import Derived.Deep.QuietTactic
import Derived.BigQuiet
import Derived.RegionTactic
import Derived.ChangeAlike
import Derived.BigRegion
import Derived.Deep.RegionHeld3
import Derived.Deep.RegionWith
import Derived.Outline
import Derived.IntWalk
import Derived.Deep.DeepCutAuto
import Derived.LoopTactic
namespace Go.Proofs.Ytemogomligbgiaa.Ti
open Go.RowKit Sp
set_option linter.unusedSimpArgs false
set_option linter.unusedVariables false

set_option maxRecDepth 100000 in
set_option maxHeartbeats 6400000 in
theorem combJ_c (s p : Int) (b off cap : Nat) (l : List Pr) (s2 p2 : Int) (b2 off2 cap2 : Nat) (l2 : List Pr) (g : Nat → Bool) (val : Nat → Pr) (E : Int) (hE : E ≠ 0) (w : World) (h200 : l.length ≤ 200) (h0 : 0 < l.length) (hr : Row w b off l) (hl2 : l2.length = l.length) (hr2 : Row w b2 off2 l2)
    (WC : ∀ k, k < l.length → ∀ W, Calls Try.prog 52 #[.agg #[(.int .i64 ((gt l k).1)), (.int .i64 ((gt l k).2))], .agg #[(.int .i64 ((gt l2 k).1)), (.int .i64 ((gt l2 k).2))]] W (Ret W (.tuple #[.agg #[(.int .i64 (selI (g k) (val k).1)), (.int .i64 (selI (g k) (val k).2))], (.int .i64 (erv true (g k) E))]))) :
    Calls Try.prog 68 #[.agg #[(.int .i64 s), (.int .i64 p), .slice (some ⟨b, off, none⟩) l.length cap], .func (.func 52) #[] #[], .func (.func 63) #[.agg #[(.int .i64 s2), (.int .i64 p2), .slice (some ⟨b2, off2, none⟩) l.length cap2]] #[]] w (CmbP w s p l.length g val E) := by
  obtain ⟨i0, hi, hz0, hz1, hz2⟩ := info_parts info_sp
  have hbl := hr.lt h0
  have HRR := Lib.hid hr
  have HI := Lib.hid hi
  have HWC := Lib.hid WC
  have hbl2 := hr2.lt (by omega)
  have HR2 := Lib.hid hr2
  have RC2 : Hid (∀ (k : Nat) W, k < l.length → Row W b2 off2 l2 → Calls Try.prog 63 #[.agg #[(.int .i64 s2), (.int .i64 p2), .slice (some ⟨b2, off2, none⟩) l.length cap2], (.int .i64 k)] W (Ret W (.agg #[(.int .i64 ((gt l2 k).1)), (.int .i64 ((gt l2 k).2))]))) := Lib.hid (fun k W hk h => by rw [← hl2]; exact row_c s2 p2 k b2 off2 cap2 l2 W (by omega) (by omega) h)
  clear hr2 hl2
  clear hr hi WC
  go_enter Try.func68, Try.ntmps68
  go_wp2_with (refine wpList_make_full (o := ⟨some 15, _, _, _, _, _⟩) _ rfl _ _ 22 rfl (w.heap.size + 1 + 1) 26 i0 (.agg #[(.int .i64 0), (.int .i64 0)]) 2 Try.underlying22 HI.out hz0 hz1 .i64 .i64 _ _ l.length rfl rfl rfl rfl (by rw [hz2]; omega) (by unfold maxLen; omega) (by simp) ?_; intro wm hown hgrow)
  all_goals skip
  have kt0 : wm.cell? ⟨w.heap.size, 0, none⟩ = some (.int .i64 s) := by rw [gcell hgrow _ (by simp <;> omega)]; go_simp
  have kt1 : wm.cell? ⟨w.heap.size, 1, none⟩ = some (.int .i64 p) := by rw [gcell hgrow _ (by simp <;> omega)]; go_simp
  have kt2 : wm.cell? ⟨w.heap.size, 2, none⟩ = some (.slice (some ⟨b, off, none⟩) l.length cap) := by rw [gcell hgrow _ (by simp <;> omega)]; go_simp
  have kr0 : wm.cell? ⟨w.heap.size + 1, 0, none⟩ = some (.int .i64 0) := by rw [gcell hgrow _ (by simp <;> omega)]; go_simp
  have kr1 : wm.cell? ⟨w.heap.size + 1, 1, none⟩ = some (.int .i64 0) := by rw [gcell hgrow _ (by simp <;> omega)]; go_simp
  have kr2 : wm.cell? ⟨w.heap.size + 1, 2, none⟩ = some (.slice none 0 0) := by rw [gcell hgrow _ (by simp <;> omega)]; go_simp
  have jr0 : wm.frozen? ⟨w.heap.size + 1, 0, none⟩ = false := by rw [gfro hgrow _ (by simp <;> omega)]; go_simp
  have jr1 : wm.frozen? ⟨w.heap.size + 1, 1, none⟩ = false := by rw [gfro hgrow _ (by simp <;> omega)]; go_simp
  have jr2 : wm.frozen? ⟨w.heap.size + 1, 2, none⟩ = false := by rw [gfro hgrow _ (by simp <;> omega)]; go_simp
  have hBm : Below w.heap.size w wm := by
    have h1 : Below w.heap.size w ((w.alloc (.cells #[(.int .i64 s), (.int .i64 p), .slice (some ⟨b, off, none⟩) l.length cap] 59)).alloc (.cells #[(.int .i64 0), (.int .i64 0), .slice none 0 0] 24)) := (by repeat (first | with_reducible exact Below.refl _ _ | with_reducible assumption | with_reducible refine Below.setCell ?_ (by first | omega | (simp <;> omega)) _ | with_reducible refine balloc ?_ _ | with_reducible refine Below.drew ?_ | with_reducible refine bstep ?_ (by with_reducible assumption)))
    exact bgrown h1 hgrow
  have hsm := hgrow.size
  simp only [World.size_alloc] at hsm hown
  rw [made_eq] at hown
  have z0 : w.heap.size < w.heap.size + 1 + 1 := by omega
  have z1 : w.heap.size + 1 < w.heap.size + 1 + 1 := by omega
  have hwg : w.heap.size ≤ w.heap.size + 1 + 1 := by omega
  have hgm : w.heap.size + 1 + 1 < wm.heap.size := (hown.lt _ rfl).2
  clear hgrow
  obtain ⟨gH, hG⟩ : ∃ gH, w.heap.size + 1 + 1 = gH := ⟨_, rfl⟩
  simp only [hG] at hown z0 z1 hwg hgm ⊢
  have HO := Lib.hid hown
  have HB := Lib.hid hBm
  clear hown hBm hsm hG
  go_loopw [18] (fun i wr => ∃ k : Nat, i = (.int .i64 k) ∧ k ≤ l.length ∧ Hid (∀ i, i < k → g i = true) ∧ Hid (wr.ownsRow gH 26 2 (.slice (some ⟨gH, 0, none⟩) l.length l.length) l.length (flatS (curL val l.length k))) ∧ Below gH wm wr ∧ gH < wr.heap.size) (fun i _ => l.length - (intOf i).toNat)
  case atStart => exact ⟨0, rfl, by omega, Lib.hid (fun i hi => by omega), Lib.hid (by have := HO.out; simpa [curL, upto] using this), Below.refl _ _, hgm⟩
  case round =>
    obtain ⟨k, rfl, hk, HA, HOk, hbel, hgr⟩ := hrel
    have hbw : Below w.heap.size w wr := HB.out.trans (hbel.mono hwg)
    have hswr := hbw.size
    by_cases hlt : k < l.length
    · have hrk := HRR.out.below hbl hbw
      have q0 := (hbel.cell (p := ⟨w.heap.size, 0, none⟩) z0).trans kt0
      have q1 := (hbel.cell (p := ⟨w.heap.size, 1, none⟩) z0).trans kt1
      have q2 := (hbel.cell (p := ⟨w.heap.size, 2, none⟩) z0).trans kt2
      have hr2k := HR2.out.below hbl2 hbw
      have HL := Lib.hid hbel
      have HBW := Lib.hid hbw
      clear hbel hbw
      go_wp2_with fail
      refine Calls.mono (row_c s p k b off cap l _ hlt h200 hrk) ?_
      rintro e w1 ⟨rfl, hb1⟩
      have hx1 : Below wr.heap.size wr w1 := hb1
      clear hrk q0 q1 q2 hb1
      go_wp2_with fail
      refine Calls.mono (RC2.out k _ hlt (hr2k.below (by omega) hx1)) ?_
      rintro e w2 ⟨rfl, hb2⟩
      have hx2 : Below wr.heap.size wr w2 := bstep hx1 hb2
      clear hr2k hb2
      clear hx1
      go_wp2_with fail
      refine Calls.mono (HWC.out k hlt _) ?_
      rintro e w3 ⟨rfl, hb3⟩
      have hx3 : Below wr.heap.size wr w3 := bstep hx2 hb3
      have hX : Below gH wm w3 := HL.out.trans (hx3.mono (by omega))
      have HBX := Lib.hid (HBW.out.trans (hx3.mono (by omega)))
      have hs3 := hx3.size
      have HO3 := Lib.hid (own_below HOk.out hx3)
      clear hx2 hb3 hx3
      generalize hvk : val k = vk at *
      have HVK := Lib.hid hvk
      clear hvk
      obtain ⟨v1, v2⟩ := vk
      dsimp only at *
      cases hg : g k
      · have HG := Lib.hid hg
        have r0 := (hX.cell (p := ⟨w.heap.size + 1, 0, none⟩) z1).trans kr0
        have r1 := (hX.cell (p := ⟨w.heap.size + 1, 1, none⟩) z1).trans kr1
        have r2 := (hX.cell (p := ⟨w.heap.size + 1, 2, none⟩) z1).trans kr2
        have j0 := (hX.frozen (p := ⟨w.heap.size + 1, 0, none⟩) z1).trans jr0
        have j1 := (hX.frozen (p := ⟨w.heap.size + 1, 1, none⟩) z1).trans jr1
        have j2 := (hX.frozen (p := ⟨w.heap.size + 1, 2, none⟩) z1).trans jr2
        have hz1 : w.heap.size + 1 < w3.heap.size := by omega
        have ee : erv true false E = E := rfl
        have se : ∀ x, selI false x = 0 := fun _ => rfl
        have hEE : (E == 0) = false := by rw [beq_eq_false_iff_ne]; exact hE
        have hE2 : ¬ (E = 0) := hE
        rw [ee, se, se]
        clear ee se hg hX
        go_wp2
        refine bodyPost_ret (v := .tuple #[.agg #[(.int .i64 0), (.int .i64 0), .slice none 0 0], (.int .i64 E)]) ?_ rfl ?_
        · simp [results, Try.results68, go_sem, r0, r1, r2, hz1]
        · have hA := allG_false hlt HG.out
          unfold CmbP
          rw [hA]
          have hbf := HBX.out
          exact ⟨_, rfl, Spans.nil _, Fresh.nil _, (by repeat (first | with_reducible exact Below.refl _ _ | with_reducible assumption | with_reducible refine Below.setCell ?_ (by first | omega | (simp <;> omega)) _ | with_reducible refine balloc ?_ _ | with_reducible refine Below.drew ?_ | with_reducible refine bstep ?_ (by with_reducible assumption)))⟩
      · have HG := Lib.hid hg
        have ee : erv true true E = 0 := rfl
        have se : ∀ x, selI true x = x := fun _ => rfl
        rw [ee, se, se]
        have hfl := flatS_length (curL val l.length k)
        have hcl := curL_len val (Nat.le_of_lt hlt)
        have HO4 := HO3.out
        have o0 := HO3.out.cellAt (k * 2) (by omega)
        have o1 := HO3.out.cellAt (k * 2 + 1) (by omega)
        obtain ⟨e0, e1⟩ := flatS_get (curL val l.length k) k (by omega)
        rw [e0] at o0
        rw [e1] at o1
        have f0 := HO3.out.frozenAt (k * 2)
        have f1 := HO3.out.frozenAt (k * 2 + 1)
        have HO5 := (((HO4.stored (k * 2) (.int .i64 v1)).1.stored (k * 2 + 1) (.int .i64 v2)).1).alloc (.cells #[(.int .i64 v1), (.int .i64 v2)] 62)
        rw [← flatS_set _ k (v1, v2), ← HVK.out, curL_set val hlt] at HO5
        have HO6 := Lib.hid HO5
        have y1 : (k : Int) < (l.length : Int) := by omega
        have HXX := Lib.hid hX
        have hg3 : gH < w3.heap.size := by omega
        clear ee se hg hX hfl hcl HO4 HO5 e0 e1
        go_wp2
        go_roundw
        case rel => exact ⟨k + 1, by go_num, by omega, Lib.hid (fun i hi => by
          rcases Nat.lt_or_ge i k with h | h
          · exact HA.out i h
          · obtain rfl : i = k := by omega
            exact HG.out), Lib.hid HO6.out, ((HXX.out.setCell (p := ⟨gH, k * 2, none⟩) (Nat.le_refl _) _).setCell (p := ⟨gH, k * 2 + 1, none⟩) (Nat.le_refl _) _).alloc (by simp; omega) _, by simp; omega⟩
        case measure => simp [intOf]; omega
    · obtain rfl : k = l.length := by omega
      have q0 := (hbel.cell (p := ⟨w.heap.size, 0, none⟩) z0).trans kt0
      have q1 := (hbel.cell (p := ⟨w.heap.size, 1, none⟩) z0).trans kt1
      have q2 := (hbel.cell (p := ⟨w.heap.size, 2, none⟩) z0).trans kt2
      have r0 := (hbel.cell (p := ⟨w.heap.size + 1, 0, none⟩) z1).trans kr0
      have r1 := (hbel.cell (p := ⟨w.heap.size + 1, 1, none⟩) z1).trans kr1
      have r2 := (hbel.cell (p := ⟨w.heap.size + 1, 2, none⟩) z1).trans kr2
      have j0 := (hbel.frozen (p := ⟨w.heap.size + 1, 0, none⟩) z1).trans jr0
      have j1 := (hbel.frozen (p := ⟨w.heap.size + 1, 1, none⟩) z1).trans jr1
      have j2 := (hbel.frozen (p := ⟨w.heap.size + 1, 2, none⟩) z1).trans jr2
      have hz1 : w.heap.size + 1 < wr.heap.size := by omega
      have HL := Lib.hid hbw
      clear hbel hbw
      go_wp2
      have hA : allG g l.length = true := allG_iff.2 HA.out
      have HOK2 := HOk.out
      rw [curL_full] at HOK2
      refine bodyPost_ret (v := .tuple #[.agg #[(.int .i64 s), (.int .i64 p), .slice (some ⟨gH, 0, none⟩) l.length l.length], (.int .i64 0)]) ?_ rfl ?_
      · simp [results, Try.results68, go_sem, r0, r1, r2, hz1]
      · unfold CmbP
        rw [hA]
        have hbf := HL.out
        have hlen : (upto val l.length).length = l.length := upto_length _ _
        have hne : w.heap.size + 1 ≠ gH := by omega
        refine ⟨_, rfl, ?_, (fun a n c h => by cases h; exact hwg), (by repeat (first | with_reducible exact Below.refl _ _ | with_reducible assumption | with_reducible refine Below.setCell ?_ (by first | omega | (simp <;> omega)) _ | with_reducible refine balloc ?_ _ | with_reducible refine Below.drew ?_ | with_reducible refine bstep ?_ (by with_reducible assumption)))⟩
        have h3 := own_other (own_other (own_other HOK2 (b := w.heap.size + 1) (o := 0) (.int .i64 s) hne) (b := w.heap.size + 1) (o := 1) (.int .i64 p) hne) (b := w.heap.size + 1) (o := 2) (.slice (some ⟨gH, 0, none⟩) l.length l.length) hne
        have := own_spans (l := upto val l.length) (by rw [hlen]; exact h3) (by omega)
        exact this


end Go.Proofs.Ytemogomligbgiaa.Ti
