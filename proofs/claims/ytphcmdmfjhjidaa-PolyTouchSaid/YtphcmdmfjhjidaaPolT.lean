/- PolT: Grow, Concat. -/
import Derived.Test.YtphcmdmfjhjidaaPolS
import Derived.Test.YtphcmdmfjhjidaaRows
import Derived.WalkKit
import Derived.WalkSpells
import Derived.WalkLawsBesides
import Derived.Lib.Hide
import Derived.Deep.QuietTactic
import Derived.BigQuiet
import Derived.RegionTactic
import Derived.ChangeAlike
import Derived.BigRegion
import Derived.Deep.RegionHeld3
import Derived.Deep.RegionWith
import Derived.Outline
import Derived.IntWalk
import Derived.LoopTactic
import Derived.Lib.AppendZerosOnto
import Derived.Lib.SliceRun
namespace Go.Proofs.Ytphcmdmfjhjidaa.Po
open Go.RowKit
set_option linter.unusedSimpArgs false
set_option linter.unusedVariables false

theorem flatP_one (l : List Pt) : ∀ u ∈ flatP l, u.oneCell' = true := by
  intro u hu
  simp only [flatP, List.mem_flatMap] at hu
  obtain ⟨p, _, hp⟩ := hu
  simp at hp
  rcases hp with rfl | rfl <;> rfl
theorem row_news {w : World} {g : Nat} {l : List Pt} (h : Row w g 0 l) : ∀ j u, (flatP l)[j]? = some u → w.cell? ((⟨g, 0, none⟩ : Addr).add j) = some u := by
  intro j u hj
  have hlt : j < l.length * 2 := by
    have := (List.getElem?_eq_some_iff.1 hj).1
    rw [flatP_length] at this
    exact this
  obtain ⟨i, hji⟩ : ∃ i, j = i * 2 ∨ j = i * 2 + 1 := ⟨j / 2, by omega⟩
  obtain ⟨e1, e2⟩ := flatP_get l i (by omega)
  obtain ⟨c1, c2⟩ := h i (by omega)
  rcases hji with rfl | rfl
  · rw [e1] at hj
    cases hj
    rw [show (⟨g, 0, none⟩ : Addr).add (i * 2) = ⟨g, 0 + i * 2, none⟩ from by (try simp [Addr.add]); (try omega)]
    exact c1
  · rw [e2] at hj
    cases hj
    rw [show (⟨g, 0, none⟩ : Addr).add (i * 2 + 1) = ⟨g, 0 + i * 2 + 1, none⟩ from by simp [Addr.add]]
    exact c2
theorem below_app2 {B : Nat} {W0 wA w' : World} {e : TypeId} {size : Nat} {v : Value} {n : Nat} {xs : List Value} (hb : Below B W0 wA) (hown : wA.ownsRow B e size v n xs) (hB : B ≤ wA.heap.size) (hg : wA.grownBy w' v.ownBlock) : Below B W0 w' := by
  refine ⟨hg.os.trans hb.os, hg.tape.trans hb.tape, hg.output.trans hb.output, Nat.le_trans hb.size hg.size, fun k hk => ?_⟩
  refine (hg.block k (by omega) ?_).trans (hb.block k hk)
  rcases hown.2 with ⟨rfl, _⟩ | ⟨g, cap, cur, rfl, hbg, _⟩
  · simp [Value.ownBlock]
  · simp [Value.ownBlock]
    omega
theorem own_cat {B : Nat} {w' : World} {v' : Value} {a b : List Pt} {m : Nat} (h : w'.ownsRow B 28 2 v' m (flatP a ++ flatP b)) (hm : m = a.length + b.length) :
    w'.ownsRow B 28 2 v' (a ++ b).length (flatP (a ++ b)) := by
  rw [List.length_append, show flatP (a ++ b) = flatP a ++ flatP b by simp [flatP]]
  subst hm
  exact h
theorem row_own {w : World} {base g n cap : Nat} {l : List Pt} (h : w.ownsRow base 28 2 (.slice (some ⟨g, 0, none⟩) n cap) n (flatP l)) (hl : l.length ≤ n) : Row w g 0 l := by
  intro i hi
  obtain ⟨e1, e2⟩ := flatP_get l i hi
  have c1 := h.cellAt (i * 2) (by omega)
  have c2 := h.cellAt (i * 2 + 1) (by omega)
  rw [Nat.zero_add]
  exact ⟨c1.trans e1, c2.trans e2⟩

set_option maxRecDepth 100000 in
set_option maxHeartbeats 3200000 in
theorem grow_c (n : Nat) (hn : n ≤ 400) (w : World) :
    Calls Try.prog 77 #[.slice none 0 0, (.int .i64 n)] w (fun e W' => ∃ v, e = .returned v ∧ W'.ownsRow w.heap.size 28 2 v 0 [] ∧ Below w.heap.size w W') := by
  obtain ⟨i0, hi, hz0, hz1, hz2⟩ := info_parts info_pt
  have x1 : IntKind.i64.wrap (n : Int) = (n : Int) := IntWalk.i64_in _ (by omega)
  go_enter Try.func77, Try.ntmps77
  by_cases h0 : n = 0
  · subst h0
    go_wp2
    go_ret
    exact ⟨_, rfl, World.ownsRow_nil _ _ _ _, Below.refl _ _⟩
  · have hG : n ≤ grownCap w (0 + n) 0 28 := by have := grownCap_ge w (0 + n) 0 28; omega
    have hM := grownCap_le_maxLen w (0 + n) 0 28 (by unfold maxLen; omega)
    have hrz : ∀ ty, (Builtin.append_ #[22, 3] ty #[.slice none 0 0, .int .i64 (n : Int)]).run Try.prog w =
        .ok (.slice (some ⟨w.heap.size, 0, none⟩) (0 + n) (grownCap w (0 + n) 0 28)) (w.drew.alloc (.cells (([] : List Value).toArray ++ Builtin.zeroCells (Value.agg #[(.int .i64 0), (.int .i64 0)]).cells n ++ Builtin.zeroCells (Value.agg #[(.int .i64 0), (.int .i64 0)]).cells (grownCap w (0 + n) 0 28 - (0 + n))) 28)) := fun ty =>
      Lib.run_append_grow_zeros w 22 3 ty 28 i0 (.agg #[(.int .i64 0), (.int .i64 0)]) .i64 .i64 Try.underlying22 Try.underlying3 hi hz0 none 0 0 [] (run_firstCells_none _ _ _ _ _) n (by omega) (by rw [hz1]; omega) (by omega) (by omega) (by rw [hz2]; omega) (growslice_fits (by omega) (by rw [hz2]; omega))
    obtain ⟨G, hGe⟩ : ∃ G, grownCap w (0 + n) 0 28 = G := ⟨_, rfl⟩
    rw [hGe] at hG hM
    simp only [hGe] at hrz
    have hG63 : G ≤ 9223372036854775807 := by unfold maxLen at hM; omega
    have hpos : (0 : Int) < (n : Int) := by omega
    have HI := Lib.hid hi
    have HM := Lib.hid hM
    clear hi hGe hM
    go_wp2_with (at_builtin; refine Lib.wpList_append_run _ rfl _ _ _ _ rfl _ _ rfl rfl _ _ (hrz _) ?_)
    all_goals (go_ret; refine ⟨_, rfl, ⟨rfl, .inr ⟨w.heap.size, _, _, rfl, Nat.le_refl _, heap_alloc_new w.drew _, Nat.zero_le _, HM.out, ?_, by simp⟩⟩, (by repeat (first | exact Below.refl _ _ | assumption | refine bstep ?_ (by assumption) | refine Below.drew ?_ | refine balloc ?_ _ | refine Below.setCell ?_ (by first | omega | (simp <;> omega)) _))⟩)
    all_goals (simp only [Array.size_append, List.size_toArray, size_zeroCells]; simp [Value.cells]; omega)

set_option maxRecDepth 100000 in
set_option maxHeartbeats 6400000 in
theorem concat_c (gq g1 c1 g2 c2 : Nat) (u v : List Pt) (hu : u.length ≤ 200) (hv : v.length ≤ 200) (w : World)
    (k1 : w.cell? ⟨gq, 0, none⟩ = some (.slice (some ⟨g1, 0, none⟩) u.length c1)) (k2 : w.cell? ⟨gq, 1, none⟩ = some (.slice (some ⟨g2, 0, none⟩) v.length c2))
    (h1 : Row w g1 0 u) (h2 : Row w g2 0 v) (hg1 : g1 < w.heap.size) (hg2 : g2 < w.heap.size) :
    Calls Try.prog 61 #[.slice (some ⟨gq, 0, none⟩) 2 2] w (OwnPost w (u ++ v)) := by
  obtain ⟨i0, hi, hz0, hz1, hz2⟩ := info_parts info_pt
  have hgq : gq < w.heap.size := World.block_lt_of_cell? _ _ k1
  have x1 : IntKind.i64.wrap (u.length : Int) = (u.length : Int) := IntWalk.i64_in _ (by omega)
  have x2 : IntKind.i64.wrap ((u.length : Int) + (v.length : Int)) = (u.length : Int) + (v.length : Int) := IntWalk.i64_in _ (by omega)
  have n1 : ¬ ((u.length : Int) < 0) := by omega
  have n2 : ¬ ((u.length : Int) + (v.length : Int) < 0) := by omega
  go_enter Try.func61, Try.ntmps61
  have HI := Lib.hid hi
  have HRu := Lib.hid h1
  have HRv := Lib.hid h2
  clear hi h1 h2
  go_wp2_with fail
  go_loopw [3, 11] (fun s3 i wr => w = wr ∧ ((i = (.int .i64 0) ∧ s3 = (.int .i64 0)) ∨ (i = (.int .i64 1) ∧ s3 = (.int .i64 (u.length))) ∨ (i = (.int .i64 2) ∧ s3 = (.int .i64 (((u.length : Int) + (v.length : Int))))))) (fun _ i _ => 2 - (intOf i).toNat)
  case atStart => exact ⟨rfl, .inl ⟨rfl, rfl⟩⟩
  case round =>
    obtain ⟨rfl, h | h | h⟩ := hrel
    · obtain ⟨rfl, rfl⟩ := h
      go_wp2
      go_roundw
      case rel => simp
      case measure => simp [intOf]
    · obtain ⟨rfl, rfl⟩ := h
      go_wp2
      go_roundw
      case rel => simp
      case measure => simp [intOf]
    · obtain ⟨rfl, rfl⟩ := h
      go_wp2_with fail
      rw [show ((u.length : Int) + (v.length : Int)) = ((u.length + v.length : Nat) : Int) by simp]
      refine (grow_c (u.length + v.length) (by omega) _).mono ?_
      rintro e w2 ⟨vg, rfl, hown, hb⟩
      have HO := Lib.hid hown
      clear hown
      go_wp2_with fail
      go_loopw [6, 27] (fun s6 i wr => ∃ (k : Nat) (vs : Value) (l : List Pt), i = (.int .i64 k) ∧ s6 = vs ∧ ((k = 0 ∧ l = []) ∨ (k = 1 ∧ l = u) ∨ (k = 2 ∧ l = u ++ v)) ∧ wr.ownsRow w.heap.size 28 2 vs l.length (flatP l) ∧ Below w.heap.size w wr) (fun _ i _ => 2 - (intOf i).toNat)
      case atStart => exact ⟨0, _, [], rfl, rfl, .inl ⟨rfl, rfl⟩, HO.out, hb⟩
      case round =>
        obtain ⟨k, vs, l, rfl, rfl, h, hown, hbel⟩ := hrel
        have q1 : wr.cell? ⟨gq, 0, none⟩ = _ := (hbel.cell hgq).trans k1
        have q2 : wr.cell? ⟨gq, 1, none⟩ = _ := (hbel.cell hgq).trans k2
        have HO1 := Lib.hid hown
        clear hown
        rcases h with ⟨rfl, rfl⟩ | ⟨rfl, rfl⟩ | ⟨rfl, rfl⟩
        · go_wp2_with (at_builtin; go_must (refine wpList_append_own _ rfl _ _ 22 rfl w.heap.size 28 i0 (.agg #[(.int .i64 0), (.int .i64 0)]) 2 16 Try.underlying22 HI.out hz0 hz1 hz2 rfl (by decide) _ _ _ rfl HO1.out ⟨g1, 0, none⟩ u.length c1 (flatP u) rfl (flatP_length _) (row_news (HRu.out.below (by assumption) hbel)) (flatP_one _) (by (try simp only [List.length_nil]); unfold maxLen; omega) (by (try simp only [List.length_nil]); omega) (by have := hbel.size; omega) ?_); intro v' w1 hown' hgrow _)
          have hR1 := below_app2 hbel HO1.out (by have := hbel.size; omega) hgrow
          have HR2 := Lib.hid (own_cat hown' rfl)
          clear hown' hgrow
          exact ⟨⟨1, _, ([] ++ u), rfl, rfl, .inr (.inl ⟨rfl, rfl⟩), HR2.out, hR1⟩, by simp [intOf]⟩
        · go_wp2_with (at_builtin; go_must (refine wpList_append_own _ rfl _ _ 22 rfl w.heap.size 28 i0 (.agg #[(.int .i64 0), (.int .i64 0)]) 2 16 Try.underlying22 HI.out hz0 hz1 hz2 rfl (by decide) _ _ _ rfl HO1.out ⟨g2, 0, none⟩ v.length c2 (flatP v) rfl (flatP_length _) (row_news (HRv.out.below (by assumption) hbel)) (flatP_one _) (by (try simp only [List.length_nil]); unfold maxLen; omega) (by (try simp only [List.length_nil]); omega) (by have := hbel.size; omega) ?_); intro v' w1 hown' hgrow _)
          have hR1 := below_app2 hbel HO1.out (by have := hbel.size; omega) hgrow
          have HR2 := Lib.hid (own_cat hown' rfl)
          clear hown' hgrow
          exact ⟨⟨2, _, _, rfl, rfl, .inr (.inr ⟨rfl, rfl⟩), HR2.out, hR1⟩, by simp [intOf]⟩
        · go_wp2
          go_ret
          exact ⟨_, rfl, by have := HO1.out; simpa using this, hbel⟩


end Go.Proofs.Ytphcmdmfjhjidaa.Po
