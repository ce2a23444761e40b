/- PolR: slices.SortFunc at places. -/
import Derived.Test.YtphcmdmfjhjidaaPolQ
import Derived.Test.YtphcmdmfjhjidaaPolN
import Derived.Test.YtphcmdmfjhjidaaSortLay
import Derived.Test.YtphcmdmfjhjidaaRows
import Derived.WalkKit
import Derived.WalkSpells
import Derived.WalkLawsBesides
import Derived.Lib.Hide
import Derived.Deep.QuietTactic
import Derived.BigQuiet
import Derived.RegionTactic
import Derived.ChangeAlike
import Derived.BigRegion
import Derived.Deep.RegionHeld3
import Derived.Deep.RegionWith
import Derived.Outline
import Derived.IntWalk
import Derived.Shelf.SlSortCmp.NoneTotal
namespace Go.Proofs.Ytphcmdmfjhjidaa.Po
open Go.RowKit
set_option linter.unusedSimpArgs false
set_option linter.unusedVariables false

open Go.Sort Go.Shelf

def encL (x : Pt) : List Value := [(.int .i64 (x.1)), (.int .i64 (x.2))]
theorem cmp_cases (a b : Int) : (a < b ∧ cmp a b = -1) ∨ (a = b ∧ cmp a b = 0) ∨ (b < a ∧ cmp a b = 1) := by unfold cmp; split <;> (try split) <;> omega
/-- The sign of a comparison, said plainly. -/
theorem cmP_lt {x y : Pt} : cmP x y < 0 ↔ x.1 < y.1 ∨ (x.1 = y.1 ∧ x.2 < y.2) := by
  unfold cmP orI
  rcases cmp_cases x.1 y.1 with ⟨h, e⟩ | ⟨h, e⟩ | ⟨h, e⟩ <;> rcases cmp_cases x.2 y.2 with ⟨h', e'⟩ | ⟨h', e'⟩ | ⟨h', e'⟩ <;> rw [e, e'] <;> simp <;> omega
theorem cmP_gt {x y : Pt} : 0 < cmP x y ↔ cmP y x < 0 := by
  rw [cmP_lt]
  unfold cmP orI
  rcases cmp_cases x.1 y.1 with ⟨h, e⟩ | ⟨h, e⟩ | ⟨h, e⟩ <;> rcases cmp_cases x.2 y.2 with ⟨h', e'⟩ | ⟨h', e'⟩ | ⟨h', e'⟩ <;> rw [e, e'] <;> simp <;> omega
/-- x comes before y in the order of r. -/
def ltR (r : Int) (x y : Pt) : Bool := decide (r * cmP x y < 0)
theorem ltR_iff {r : Int} (hr : r = 1 ∨ r = -1) {x y : Pt} : ltR r x y = true ↔ (r = 1 ∧ (x.1 < y.1 ∨ (x.1 = y.1 ∧ x.2 < y.2))) ∨ (r = -1 ∧ (y.1 < x.1 ∨ (y.1 = x.1 ∧ y.2 < x.2))) := by
  unfold ltR
  rw [decide_eq_true_eq]
  rcases hr with rfl | rfl
  · rw [Int.one_mul, cmP_lt]; simp
  · have : (-1 : Int) * cmP x y < 0 ↔ 0 < cmP x y := by omega
    rw [this, cmP_gt, cmP_lt]; simp
theorem ltR_swo {r : Int} (hr : r = 1 ∨ r = -1) : SWO (ltOf fun x y : Pt => r * cmP x y) where
  irrefl x := by have := ltR_iff hr (x := x) (y := x); unfold ltR at this; unfold ltOf; rw [Bool.eq_false_iff]; intro h; have := this.1 h; omega
  trans x y z h1 h2 := by
    have a := (ltR_iff hr (x := x) (y := y)).1 h1
    have b := (ltR_iff hr (x := y) (y := z)).1 h2
    exact (ltR_iff hr (x := x) (y := z)).2 (by omega)
  ntrans x y z h1 h2 := by
    have a := fun h => Bool.false_ne_true (h1.symm.trans ((ltR_iff hr (x := x) (y := y)).2 h))
    have b := fun h => Bool.false_ne_true (h2.symm.trans ((ltR_iff hr (x := y) (y := z)).2 h))
    change ltR r x z = false
    rw [Bool.eq_false_iff]
    intro h
    have c := (ltR_iff hr (x := x) (y := z)).1 h
    by_cases h3 : (r = 1 ∧ (x.1 < y.1 ∨ (x.1 = y.1 ∧ x.2 < y.2))) ∨ (r = -1 ∧ (y.1 < x.1 ∨ (y.1 = x.1 ∧ y.2 < x.2)))
    · exact a h3
    · by_cases h4 : (r = 1 ∧ (y.1 < z.1 ∨ (y.1 = z.1 ∧ y.2 < z.2))) ∨ (r = -1 ∧ (z.1 < y.1 ∨ (z.1 = y.1 ∧ z.2 < y.2)))
      · exact b h4
      · omega
theorem ltR_tot {r : Int} (hr : r = 1 ∨ r = -1) : ∀ x y : Pt, ltOf (fun x y : Pt => r * cmP x y) x y = false → ltOf (fun x y : Pt => r * cmP x y) y x = false → x = y := by
  intro x y h1 h2
  have a := fun h => Bool.false_ne_true (h1.symm.trans ((ltR_iff hr (x := x) (y := y)).2 h))
  have b := fun h => Bool.false_ne_true (h2.symm.trans ((ltR_iff hr (x := y) (y := x)).2 h))
  have h3 : ¬ ((r = 1 ∧ (x.1 < y.1 ∨ (x.1 = y.1 ∧ x.2 < y.2))) ∨ (r = -1 ∧ (y.1 < x.1 ∨ (y.1 = x.1 ∧ y.2 < x.2)))) := a
  have h4 : ¬ ((r = 1 ∧ (y.1 < x.1 ∨ (y.1 = x.1 ∧ y.2 < x.2))) ∨ (r = -1 ∧ (x.1 < y.1 ∨ (x.1 = y.1 ∧ x.2 < y.2)))) := b
  exact Prod.ext (by omega) (by omega)
/-- The places in the order of r. -/
def srt (r : Int) (l : List Pt) : List Pt := l.mergeSort fun x y => !ltR r y x
theorem srt_length (r : Int) (l : List Pt) : (srt r l).length = l.length := List.length_mergeSort _
theorem srt_perm (r : Int) (l : List Pt) : (srt r l).Perm l := List.mergeSort_perm _ _

set_option maxRecDepth 100000 in
set_option maxHeartbeats 1600000 in
theorem sort_c (r : Int) (base g q cap : Nat) (l : List Pt) (w : World) (hr : r = 1 ∨ r = -1) (h200 : l.length ≤ 200) (h0l : 0 < l.length) (hrow : w.ownsRow base 28 2 (.slice (some ⟨g, 0, none⟩) l.length cap) l.length (flatP l)) (hq : w.cell? ⟨q, 0, none⟩ = some (.int .i64 r)) (hqg : q ≠ g) :
    Calls Try.prog 84 #[.slice (some ⟨g, 0, none⟩) l.length cap, .func (.func 78) #[] #[.pointer (some ⟨q, 0, none⟩)]] w fun e W' => e = .returned (.tuple #[]) ∧ Row W' g 0 (srt r l) ∧ But [g] w.heap.size w W' := by
  have hql : q < w.heap.size := World.block_lt_of_cell? w _ hq
  have hcells : ∀ j, j < l.length * 2 → w.cell? ⟨g, j, none⟩ = (flatP l)[j]? := fun j hj => hrow.cellAt j hj
  have hfr : ∀ j, w.frozen? ⟨g, j, none⟩ = false := fun j => hrow.frozenAt j
  have hgl : g < w.heap.size := World.block_lt_of_cell? w _ (((hcells 0 (by omega)).trans (flatP_get l 0 h0l).1))
  have hH : HoldsK encL 2 w g 0 l.toArray := by
    intro j hj
    rw [size_flatK] at hj
    simp at hj
    rw [Nat.zero_add]
    refine ⟨?_, hfr j⟩
    rw [hcells j hj, get_flatK _ _ _ _ (by simpa using hj)]
    have hi : j / 2 < l.length := by omega
    obtain ⟨e1, e2⟩ := flatP_get l (j / 2) hi
    have hgp : l.toArray[j / 2]! = gp l (j / 2) := by simp [gp, hi]
    rw [hgp]
    rcases Nat.mod_two_eq_zero_or_one j with h | h
    · have : j = j / 2 * 2 := by omega
      rw [h]
      rw [this, e1]
      simp [encL]
    · have : j = j / 2 * 2 + 1 := by omega
      rw [h]
      rw [this, e2, show (j / 2 * 2 + 1) / 2 = j / 2 by omega]
      simp [encL]
  have hcmp : CmpLays Try.prog 78 #[.pointer (some ⟨q, 0, none⟩)] encL 2 (fun x y => r * cmP x y) g 0 l.toArray.size w := by
    intro m os dk hdk x y
    obtain ⟨x1, x2⟩ := x
    obtain ⟨y1, y2⟩ := y
    refine order1_c x1 x2 y1 y2 r q _ (by omega) ?_
    unfold sortWorldK
    rw [cell?_grow _ _ _ (by show q < (putRowK encL 2 (Sort.ahead w m) g 0 dk).heap.size; unfold putRowK putRow mapBlock; simp [Sort.ahead]; exact hql), cell?_putRowK_other _ _ _ _ _ _ _ hqg]
    exact hq
  have eg : ∀ args w, (callFunc 78 args).run Try.prog w = .ok (.enter 78 args) w := enters_of Try.func78 (by kernel_rfl) rfl
  have hcon := AnyQ.slices_SortFunc_total Try.laysSort 2 Try.isAgg28 Try.sizeOf28 encL (fun _ => rfl) (fun x v hv => by simp [encL] at hv; rcases hv with rfl | rfl <;> rfl) (fun x y => r * cmP x y) (ltR_swo hr) 78 #[.pointer (some ⟨q, 0, none⟩)] g 0 cap l.toArray w eg hcmp hH hgl (by simp; omega) (ltR_tot hr)
  change Calls Try.prog 84 _ _ _ at hcon
  have hsz : l.toArray.size = l.length := by simp
  rw [hsz] at hcon
  refine hcon.mono ?_
  rintro e W' ⟨he, n, os, hw⟩
  refine ⟨he, ?_, ?_⟩
  · have hs : (List.mergeSort l.toArray.toList fun x y => !(ltOf fun x y => r * cmP x y) y x).toArray = (srt r l).toArray := rfl
    rw [hs] at hw
    have hh : HoldsK encL 2 W' g 0 (srt r l).toArray := by
      rw [hw]
      unfold sortWorldK
      refine holdsK_grow _ _ _ _ _ _ _ ?_ (holdsK_putRowK _ _ _ _ _ _ _ (holdsK_ahead _ _ _ _ _ _ _ hH) (by simp [srt_length]))
      unfold putRowK putRow mapBlock; simp [Sort.ahead]; exact hgl
    intro i hi
    have hi' : i < (srt r l).toArray.size := by simpa using hi
    have c0 := (HoldsK.cell hh hi' (c := 0) (by omega)).1
    have c1 := (HoldsK.cell hh hi' (c := 1) (by omega)).1
    have hgp : (srt r l).toArray[i]! = gp (srt r l) i := by simp [gp, hi]
    rw [hgp] at c0 c1
    exact ⟨c0, c1⟩
  · rw [hw]
    refine ⟨rfl, rfl, rfl, ?_, fun k hk hkg => ?_⟩
    · unfold sortWorldK putRowK putRow mapBlock; simp [Sort.grow, Sort.ahead]
    · unfold sortWorldK putRowK putRow mapBlock
      show ((Array.modify w.heap g _) ++ os)[k]? = _
      rw [Array.getElem?_append_left (by simpa using hk), Array.getElem?_modify, if_neg (fun e => hkg (by simp [e]))]

/-- slices.SortedFunc of a slice's places: a row of its own. -/
def SrtPost (w : World) (l : List Pt) (e : Ending) (W' : World) : Prop := ∃ g cap, e = .returned (.slice (some ⟨g, 0, none⟩) l.length cap) ∧ Row W' g 0 l ∧ w.heap.size ≤ g ∧ Below w.heap.size w W'
set_option maxRecDepth 100000 in
set_option maxHeartbeats 1600000 in
theorem sorted_c (r : Int) (Bs b off cap q : Nat) (l : List Pt) (w : World) (hr : r = 1 ∨ r = -1) (h200 : l.length ≤ 200) (h0l : 0 < l.length) (hBs : w.cell? ⟨Bs, 0, none⟩ = some (.slice (some ⟨b, off, none⟩) l.length cap)) (hc : Row w b off l) (hq : w.cell? ⟨q, 0, none⟩ = some (.int .i64 r)) :
    Calls Try.prog 75 #[.func (.func 85) #[] #[.pointer (some ⟨Bs, 0, none⟩)], .func (.func 78) #[] #[.pointer (some ⟨q, 0, none⟩)]] w (SrtPost w (srt r l)) := by
  have hql : q < w.heap.size := World.block_lt_of_cell? w _ hq
  have HC := Lib.hid hc
  clear hc
  go_enter Try.func75, Try.ntmps75
  go_wp2_with fail
  refine Calls.mono (collect_c Bs b off cap l h200 h0l _ hBs HC.out) ?_
  rintro e w1 ⟨v, rfl, hown, hb1⟩
  obtain ⟨k, hk⟩ : ∃ k, l.length = k + 1 := ⟨l.length - 1, by omega⟩
  have hown' := hown
  rw [hk] at hown'
  obtain ⟨g, cap', hv⟩ := ownsRow_succ hown'
  rw [← hk] at hv
  subst hv
  have hge := (hown.lt g rfl).1
  have hgl := (hown.lt g rfl).2
  have HO := Lib.hid hown
  have HK := Lib.hid hk
  clear hown hown' hk
  have hq1 : w1.cell? ⟨q, 0, none⟩ = some (.int .i64 r) := (hb1.cell (p := ⟨q, 0, none⟩) hql).trans hq
  go_wp2_with fail
  refine Calls.mono (sort_c r w.heap.size g q cap' l _ hr h200 h0l HO.out hq1 (by omega)) ?_
  rintro e w2 ⟨rfl, hrow, hbut⟩
  have hB : Below w.heap.size w w2 := hb1.trans (hbut.below hb1.size (by simpa using hge))
  have HR := Lib.hid hrow
  clear hrow
  go_wp2
  go_ret
  exact ⟨g, cap', by rw [srt_length]; rfl, HR.out, hge, hB⟩


end Go.Proofs.Ytphcmdmfjhjidaa.Po
