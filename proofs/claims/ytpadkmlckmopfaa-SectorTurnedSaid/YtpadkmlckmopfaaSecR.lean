/- SecR: slices.SortFunc at directions. -/
import Derived.Test.YtpadkmlckmopfaaSecP
import Derived.Test.YtpadkmlckmopfaaSortLayD
import Derived.Test.YtpadkmlckmopfaaRows
import Derived.WalkKit
import Derived.WalkSpells
import Derived.WalkLawsBesides
import Derived.Lib.Hide
import Derived.Deep.QuietTactic
import Derived.BigQuiet
import Derived.RegionTactic
import Derived.ChangeAlike
import Derived.BigRegion
import Derived.Deep.RegionHeld3
import Derived.Deep.RegionWith
import Derived.Outline
import Derived.IntWalk
import Derived.Deep.DeepCutAuto
import Derived.Shelf.SlSortCmp.NoneTotal
namespace Go.Proofs.Ytpadkmlckmopfaa.Se
open Go.RowKit
set_option linter.unusedSimpArgs false
set_option linter.unusedVariables false

open Go.Sort Go.Shelf

/-- Directions with the least integers. -/
abbrev Dl := { v : V // okD v = true ∧ gcI v.1 v.2 = 1 }
instance : Inhabited Dl := ⟨⟨(1, 0), by decide, by decide⟩⟩
def encL (x : Dl) : List Value := [(.int .i64 (x.1.1)), (.int .i64 (x.1.2))]
theorem ne0 {v : V} (h : okD v = true) : v ≠ (0, 0) := (okD_iff.1 h).1
theorem cm_swo : SWO (ltOf fun x y : Dl => cmV x.1 y.1) where
  irrefl x := by unfold ltOf; dsimp only; rw [decide_eq_false_iff_not, cmV_self]; decide
  trans x y z h1 h2 := by
    unfold ltOf at *
    rw [decide_eq_true_eq] at *
    dsimp only at *
    have a := cmV_trans (ne0 x.2.1) (ne0 y.2.1) (ne0 z.2.1) (by omega) (by omega)
    rcases Int.lt_or_le (cmV x.1 z.1) 0 with h | h
    · exact h
    · exfalso
      have b : cmV z.1 x.1 ≤ 0 := by have := cmV_anti x.1 z.1; omega
      have c := cmV_trans (ne0 z.2.1) (ne0 x.2.1) (ne0 y.2.1) b (by omega)
      have := cmV_anti y.1 z.1
      omega
  ntrans x y z h1 h2 := by
    unfold ltOf at *
    rw [decide_eq_false_iff_not] at *
    dsimp only at *
    have a := cmV_anti x.1 y.1
    have b := cmV_anti y.1 z.1
    have c := cmV_anti x.1 z.1
    have := cmV_trans (ne0 z.2.1) (ne0 y.2.1) (ne0 x.2.1) (by omega) (by omega)
    omega
theorem cross_eq {x y : Dl} (h : crV x.1 y.1 = 0) : (x.1.1 = y.1.1 ∧ x.1.2 = y.1.2) ∨ (x.1.1 = -y.1.1 ∧ x.1.2 = -y.1.2) := by
  obtain ⟨⟨a, b⟩, h1, h2⟩ := x
  obtain ⟨⟨c, d⟩, h3, h4⟩ := y
  simp only [crV, gcI] at *
  have e : a * d = b * c := by omega
  have g1 : Nat.Coprime a.natAbs b.natAbs := by have h5 := h2; unfold gcI at h5; dsimp only at h5; unfold Nat.Coprime; omega
  have g2 : Nat.Coprime c.natAbs d.natAbs := by have h5 := h4; unfold gcI at h5; dsimp only at h5; unfold Nat.Coprime; omega
  have en : a.natAbs * d.natAbs = b.natAbs * c.natAbs := by rw [← Int.natAbs_mul, ← Int.natAbs_mul, e]
  have d1 : a.natAbs ∣ c.natAbs := Nat.Coprime.dvd_of_dvd_mul_left g1 ⟨d.natAbs, en.symm⟩
  have d2 : c.natAbs ∣ a.natAbs := Nat.Coprime.dvd_of_dvd_mul_right g2 ⟨b.natAbs, by rw [en, Nat.mul_comm]⟩
  have e1 := Nat.dvd_antisymm d1 d2
  have d3 : b.natAbs ∣ d.natAbs := Nat.Coprime.dvd_of_dvd_mul_left g1.symm ⟨c.natAbs, en⟩
  have d4 : d.natAbs ∣ b.natAbs := Nat.Coprime.dvd_of_dvd_mul_right g2.symm ⟨a.natAbs, by rw [← en, Nat.mul_comm]⟩
  have e2 := Nat.dvd_antisymm d3 d4
  have c1 : a = c ∨ a = -c := Int.natAbs_eq_natAbs_iff.1 e1
  have c2 : b = d ∨ b = -d := Int.natAbs_eq_natAbs_iff.1 e2
  rcases c1 with rfl | rfl <;> rcases c2 with rfl | rfl
  · exact .inl ⟨rfl, rfl⟩
  · have : a * d = 0 := by have e3 : -d * a = -(a * d) := by grind
                           omega
    rcases Int.mul_eq_zero.1 this with h | h
    · subst h; exact .inr ⟨by simp, rfl⟩
    · subst h; exact .inl ⟨rfl, by simp⟩
  · have : c * b = 0 := by have e3 : -c * b = -(c * b) := by grind
                           have e4 : b * c = c * b := by grind
                           omega
    rcases Int.mul_eq_zero.1 this with h | h
    · subst h; exact .inl ⟨by simp, rfl⟩
    · subst h; exact .inr ⟨rfl, by simp⟩
  · exact .inr ⟨rfl, rfl⟩
theorem cm_tot : ∀ x y : Dl, ltOf (fun x y : Dl => cmV x.1 y.1) x y = false → ltOf (fun x y : Dl => cmV x.1 y.1) y x = false → x = y := by
  intro x y h1 h2
  unfold ltOf at *
  rw [decide_eq_false_iff_not] at *
  dsimp only at *
  rw [cmV_lt] at h1 h2
  have hx := halfV_cases x.1
  have hy := halfV_cases y.1
  have ha := cr_anti x.1 y.1
  have hc : crV x.1 y.1 = 0 := by omega
  have n0 := ne0 x.2.1
  have hn : ¬ (x.1.1 = 0 ∧ x.1.2 = 0) := fun h => n0 (Prod.ext h.1 h.2)
  rcases cross_eq hc with ⟨a, b⟩ | ⟨a, b⟩
  · exact Subtype.ext (Prod.ext a b)
  · exfalso
    omega
theorem le_gc {v : V} (h : okD v = true) : okD (leV v) = true ∧ gcI (leV v).1 (leV v).2 = 1 := by
  obtain ⟨h0, ⟨h1, h2⟩, h3, h4⟩ := okD_iff.1 h
  have hp : 0 < gcI v.1 v.2 := gc_pos (fun h => h0 (Prod.ext h.1 h.2))
  obtain ⟨b1, b2⟩ := tdiv_bd (n := gcI v.1 v.2) h1 h2
  obtain ⟨b3, b4⟩ := tdiv_bd (n := gcI v.1 v.2) h3 h4
  obtain ⟨p, hp1⟩ := gc_dvd1 v.1 v.2
  obtain ⟨q, hq1⟩ := gc_dvd2 v.1 v.2
  have ep : v.1.tdiv (gcI v.1 v.2) = p := by
    conv => lhs; arg 1; rw [hp1]
    exact Int.mul_tdiv_cancel_left _ (by omega)
  have eq : v.2.tdiv (gcI v.1 v.2) = q := by
    conv => lhs; arg 1; rw [hq1]
    exact Int.mul_tdiv_cancel_left _ (by omega)
  have hg : gcI p q = 1 := by
    have h5 : gcI v.1 v.2 = gcI v.1 v.2 * gcI p q := by
      generalize hg0 : gcI v.1 v.2 = g at *
      have h7 : gcI (g * p) (g * q) = g * gcI p q := by
        unfold gcI
        rw [Int.natAbs_mul, Int.natAbs_mul, Nat.gcd_mul_left, Int.natCast_mul]
        have : (g.natAbs : Int) = g := by omega
        rw [this]
      rw [← h7, ← hp1, ← hq1, hg0]
    have h6 : gcI v.1 v.2 * (gcI p q - 1) = 0 := by rw [Int.mul_sub]; omega
    rcases Int.mul_eq_zero.1 h6 with h | h
    · omega
    · omega
  refine ⟨okD_iff.2 ⟨?_, ⟨b1, b2⟩, b3, b4⟩, ?_⟩
  · intro h
    unfold leV at h
    have e1 : v.1.tdiv (gcI v.1 v.2) = 0 := congrArg Prod.fst h
    have e2 : v.2.tdiv (gcI v.1 v.2) = 0 := congrArg Prod.snd h
    rw [ep] at e1
    rw [eq] at e2
    rw [e1, e2] at hg
    simp [gcI] at hg
  · unfold leV
    dsimp only
    rw [ep, eq]
    exact hg
/-- The sorted turns. -/
def srD (l : List Dl) : List Dl := l.mergeSort fun x y => !(ltOf fun x y : Dl => cmV x.1 y.1) y x
theorem srD_length (l : List Dl) : (srD l).length = l.length := List.length_mergeSort _
theorem srD_perm (l : List Dl) : (srD l).Perm l := List.mergeSort_perm _ _
theorem srD_val (l : List Dl) : (srD l).map (·.1) = srV (l.map (·.1)) := by
  unfold srD srV
  rw [List.map_mergeSort (r := fun x y => !(ltOf fun x y : Dl => cmV x.1 y.1) y x) (s := fun x y => !ltV y x) (f := fun x : Dl => x.1) (l := l) (fun a _ b _ => rfl)]

def RowV (w : World) (b off : Nat) (l : List V) : Prop := ∀ i, i < l.length → w.cell? ⟨b, off + i * 2, none⟩ = some (.int .i64 ((gv l i).1)) ∧ w.cell? ⟨b, off + i * 2 + 1, none⟩ = some (.int .i64 ((gv l i).2))
theorem gv_map (l : List Dl) (i : Nat) (hi : i < l.length) : gv (l.map (·.1)) i = (l[i]!).1 := by
  unfold gv
  rw [List.getD_eq_getElem?_getD, List.getElem?_map, List.getElem?_eq_getElem hi]
  simp [hi]
theorem own_of_row {w W' : World} {base g n cap : Nat} {m l : List V} (h : w.ownsRow base 55 2 (.slice (some ⟨g, 0, none⟩) n cap) n (flatV m))
    (hheap : ∀ cur, w.heap[g]? = some (.cells cur 55 (0, 0)) → ∃ cur', W'.heap[g]? = some (.cells cur' 55 (0, 0)) ∧ cur'.size = cur.size) (hl : l.length = n) (hr : RowV W' g 0 l) :
    W'.ownsRow base 55 2 (.slice (some ⟨g, 0, none⟩) n cap) n (flatV l) := by
  refine ⟨by rw [flatV_length, hl], ?_⟩
  rcases h.2 with ⟨h1, _⟩ | ⟨g', cap', cur, hv, hb, hc, hn, hm, hs, ht⟩
  · cases h1
  · cases hv
    obtain ⟨cur', hc', hs'⟩ := hheap cur hc
    refine .inr ⟨g, cap, cur', rfl, hb, hc', hn, hm, by omega, ?_⟩
    apply List.ext_getElem?
    intro j
    have hcell : ∀ o, W'.cell? ⟨g, o, none⟩ = cur'[o]? := fun o => by simp [World.cell?, hc']
    rcases Nat.lt_or_ge j (n * 2) with hj | hj
    · rw [List.getElem?_take_of_lt hj, Array.getElem?_toList, ← hcell]
      obtain ⟨e1, e2⟩ := flatV_get l (j / 2) (by omega)
      obtain ⟨r1, r2⟩ := hr (j / 2) (by omega)
      rw [Nat.zero_add] at r1 r2
      rcases Nat.mod_two_eq_zero_or_one j with h2 | h2
      · have e : j / 2 * 2 = j := by omega
        rw [e] at e1 r1
        rw [e1, r1]
      · have e : j / 2 * 2 + 1 = j := by omega
        rw [e] at e2 r2
        rw [e2, r2]
    · rw [List.getElem?_eq_none (by rw [List.length_take]; omega), List.getElem?_eq_none (by rw [flatV_length, hl]; omega)]

set_option maxRecDepth 100000 in
set_option maxHeartbeats 1600000 in
theorem sort_c (base g cap : Nat) (l : List Dl) (w : World) (h200 : l.length ≤ 200) (h0l : 0 < l.length) (hrow : w.ownsRow base 55 2 (.slice (some ⟨g, 0, none⟩) l.length cap) l.length (flatV (l.map (·.1)))) :
    Calls Try.prog 70 #[.slice (some ⟨g, 0, none⟩) l.length cap, .func (.func 54) #[] #[]] w fun e W' => e = .returned (.tuple #[]) ∧ W'.ownsRow base 55 2 (.slice (some ⟨g, 0, none⟩) l.length cap) l.length (flatV (srV (l.map (·.1)))) ∧ Kp [g] w.heap.size w W' := by
  have hcells : ∀ j, j < l.length * 2 → w.cell? ⟨g, j, none⟩ = (flatV (l.map (·.1)))[j]? := fun j hj => hrow.cellAt j hj
  have hfr : ∀ j, w.frozen? ⟨g, j, none⟩ = false := fun j => hrow.frozenAt j
  have hgl : g < w.heap.size := (hrow.lt g rfl).2
  have hlm : (l.map (·.1)).length = l.length := by simp
  have hH : HoldsK encL 2 w g 0 l.toArray := by
    intro j hj
    rw [size_flatK] at hj
    simp at hj
    rw [Nat.zero_add]
    refine ⟨?_, hfr j⟩
    rw [hcells j hj, get_flatK _ _ _ _ (by simpa using hj)]
    have hi : j / 2 < l.length := by omega
    obtain ⟨e1, e2⟩ := flatV_get (l.map (·.1)) (j / 2) (by omega)
    have hgp : l.toArray[j / 2]! = l[j / 2]! := by simp [hi]
    rw [hgp]
    rw [gv_map l _ hi] at e1 e2
    rcases Nat.mod_two_eq_zero_or_one j with h | h
    · have : j = j / 2 * 2 := by omega
      rw [h]
      rw [this, e1]
      simp [encL]
    · have : j = j / 2 * 2 + 1 := by omega
      rw [h]
      rw [this, e2, show (j / 2 * 2 + 1) / 2 = j / 2 by omega]
      simp [encL]
  have hcmp : CmpLays Try.prog 54 #[] encL 2 (fun x y => cmV x.1 y.1) g 0 l.toArray.size w := by
    intro m os dk hdk x y
    obtain ⟨⟨x1, x2⟩, hx⟩ := x
    obtain ⟨⟨y1, y2⟩, hy⟩ := y
    exact compare1_c x1 x2 y1 y2 _ (okD_W hx.1) (okD_W hy.1)
  have eg : ∀ args w, (callFunc 54 args).run Try.prog w = .ok (.enter 54 args) w := enters_of Try.func54 (by kernel_rfl) rfl
  have hcon := AnyQ.slices_SortFunc_total Try.laysSort 2 Try.isAgg55 Try.sizeOf55 encL (fun _ => rfl) (fun x v hv => by simp [encL] at hv; rcases hv with rfl | rfl <;> rfl) (fun x y => cmV x.1 y.1) cm_swo 54 #[] g 0 cap l.toArray w eg hcmp hH hgl (by simp; omega) cm_tot
  change Calls Try.prog 70 _ _ _ at hcon
  have hsz : l.toArray.size = l.length := by simp
  rw [hsz] at hcon
  refine hcon.mono ?_
  rintro e W' ⟨he, n, os, hw⟩
  have hs : (List.mergeSort l.toArray.toList fun x y => !(ltOf fun x y : Dl => cmV x.1 y.1) y x).toArray = (srD l).toArray := rfl
  rw [hs] at hw
  have hh : HoldsK encL 2 W' g 0 (srD l).toArray := by
    rw [hw]
    unfold sortWorldK
    refine holdsK_grow _ _ _ _ _ _ _ ?_ (holdsK_putRowK _ _ _ _ _ _ _ (holdsK_ahead _ _ _ _ _ _ _ hH) (by simp [srD_length]))
    unfold putRowK putRow mapBlock; simp [Sort.ahead]; exact hgl
  have hblk : ∀ k, k ≠ g → k < w.heap.size → W'.heap[k]? = w.heap[k]? := fun k hkg hk => by
    rw [hw]
    unfold sortWorldK putRowK putRow mapBlock
    show ((Array.modify w.heap g _) ++ os)[k]? = _
    rw [Array.getElem?_append_left (by simpa using hk), Array.getElem?_modify, if_neg (fun e => hkg (by simp [e]))]
  have hsize : w.heap.size ≤ W'.heap.size := by rw [hw]; unfold sortWorldK putRowK putRow mapBlock; simp [Sort.grow, Sort.ahead]
  refine ⟨he, ?_, ⟨⟨?_, ?_, ?_, hsize, fun k hk hkg => hblk k (by simpa using hkg) hk⟩, ⟨hsize, fun k c z hk hc => (hblk k (by simpa using hk) (Array.getElem?_eq_some_iff.1 hc).1).trans hc⟩⟩⟩
  · refine own_of_row hrow (fun cur hc => ?_) (by rw [← srD_val]; simp [srD_length]) ?_
    · rw [hw]
      unfold sortWorldK putRowK putRow mapBlock
      refine ⟨putCells id 0 (flatK encL 2 (srD l).toArray) cur, ?_, by simp [putCells]⟩
      show ((Array.modify w.heap g _) ++ os)[g]? = _
      rw [Array.getElem?_append_left (by simpa using hgl), Array.getElem?_modify, if_pos rfl, hc]
      rfl
    · rw [← srD_val]
      intro i hi
      have hi' : i < (srD l).toArray.size := by simpa using hi
      have hi2 : i < (srD l).length := by simpa using hi
      have c0 := (HoldsK.cell hh hi' (c := 0) (by omega)).1
      have c1 := (HoldsK.cell hh hi' (c := 1) (by omega)).1
      have hgp : (srD l).toArray[i]! = (srD l)[i]! := by simp [hi2]
      rw [hgp] at c0 c1
      rw [gv_map _ _ hi2]
      exact ⟨c0, c1⟩
  · rw [hw]; rfl
  · rw [hw]; rfl
  · rw [hw]; rfl

theorem sortV_c (base : Nat) (v : Value) (l : List Dl) (w : World) (h200 : l.length ≤ 200) (hb : base ≤ w.heap.size) (hrow : w.ownsRow base 55 2 v l.length (flatV (l.map (·.1)))) :
    Calls Try.prog 70 #[v, .func (.func 54) #[] #[]] w fun e W' => e = .returned (.tuple #[]) ∧ W'.ownsRow base 55 2 v l.length (flatV (srV (l.map (·.1)))) ∧ Below base w W' ∧ KeepsOthers w W' := by
  by_cases h0 : l.length = 0
  · have hl : l = [] := List.length_eq_zero_iff.1 h0
    subst hl
    obtain ⟨p, c, rfl, _, _⟩ := own_form hrow
    have hcon := AnyF.slices_SortFunc_none Try.laysSort p c (.func (.func 54) #[] #[]) w
    change Calls Try.prog 70 _ _ _ at hcon
    refine hcon.mono ?_
    rintro e W' ⟨rfl, rfl⟩
    exact ⟨rfl, by simpa [srV] using hrow, Below.refl _ _, KeepsOthers.refl _⟩
  · obtain ⟨k, hk⟩ : ∃ k, l.length = k + 1 := ⟨l.length - 1, by omega⟩
    have h' := hrow
    rw [hk] at h'
    obtain ⟨g, cap, e⟩ := ownsRow_succ h'
    rw [← hk] at e
    subst e
    have hg := (hrow.lt g rfl).1
    obtain ⟨cur, z, hc⟩ := own_heap hrow
    refine (sort_c base g cap l w h200 (by omega) hrow).mono ?_
    rintro e W' ⟨he, ho, hkp⟩
    refine ⟨he, ho, hkp.but.below hb (by simpa using hg), ⟨hkp.but.size, fun i ob hi hnc => ?_⟩⟩
    by_cases hig : i = g
    · subst hig
      rw [hc] at hi
      cases hi
      cases hnc
    · exact (hkp.but.block i (Array.getElem?_eq_some_iff.1 hi).1 (by simpa using hig)).trans hi


end Go.Proofs.Ytpadkmlckmopfaa.Se
