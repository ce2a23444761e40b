/- SecJ: slices of the own, Grow, Concat. -/
import Derived.Test.YtpadkmlckmopfaaSecE
import Derived.Test.YtpadkmlckmopfaaRows
import Derived.WalkKit
import Derived.WalkSpells
import Derived.WalkLawsBesides
import Derived.Lib.Hide
import Derived.Deep.QuietTactic
import Derived.BigQuiet
import Derived.RegionTactic
import Derived.ChangeAlike
import Derived.BigRegion
import Derived.Deep.RegionHeld3
import Derived.Deep.RegionWith
import Derived.Outline
import Derived.IntWalk
import Derived.Deep.DeepCutAuto
import Derived.LoopTactic
import Derived.Lib.AppendZerosOnto
import Derived.Lib.SliceRun
import Derived.RangeFuncBox
import Derived.Laws.AppendOwnNone
import Derived.Maps.AppendAt
namespace Go.Proofs.Ytpadkmlckmopfaa.Se
open Go.RowKit
set_option linter.unusedSimpArgs false
set_option linter.unusedVariables false

theorem info_s : (Try.prog.info? 26).map (fun i => (i.zero, i.size, i.bytes)) = some (some (.agg #[(.int .i64 0), (.int .i64 0), (.int .i64 0), (.int .i64 0), (.int .i64 0), (.int .i64 0)]), 6, 48) := by kernel_rfl
theorem grown_of_below {W W' : World} (h : Below W.heap.size W W') : W.grownBy W' none := ⟨h.os, h.tape, h.output, h.size, fun k hk _ => h.block k hk⟩
theorem own_below {W W' : World} {base : Nat} {e : TypeId} {size : Nat} {v : Value} {n : Nat} {xs : List Value} (h : W.ownsRow base e size v n xs) (hb : Below W.heap.size W W') : W'.ownsRow base e size v n xs :=
  h.kept (grown_of_below hb) (by cases hv : v.ownBlock with | none => exact .inl rfl | some k => exact .inr (by simp))
theorem own_base {W : World} {base base' : Nat} {e : TypeId} {size : Nat} {v : Value} {n : Nat} {xs : List Value} (h : W.ownsRow base e size v n xs) (hb : base' ≤ base) : W.ownsRow base' e size v n xs := by
  obtain ⟨h1, h2⟩ := h
  refine ⟨h1, ?_⟩
  rcases h2 with h | ⟨g, cap, cur, a, b, c⟩
  · exact .inl h
  · exact .inr ⟨g, cap, cur, a, Nat.le_trans hb b, c⟩
theorem own_form {W : World} {base n : Nat} {e : TypeId} {size : Nat} {v : Value} {xs : List Value} (h : W.ownsRow base e size v n xs) : ∃ p c, v = .slice p n c ∧ n ≤ c ∧ (p = none → c = 0) := by
  obtain ⟨h1, h2⟩ := h
  rcases h2 with ⟨h, h'⟩ | ⟨g', cap', cur, hv, hb, hc, hn, hm, hs, ht⟩
  · subst h'; exact ⟨_, _, h, Nat.le_refl _, fun _ => rfl⟩
  · exact ⟨_, _, hv, hn, fun h => (by cases h)⟩
theorem below_app2 {B : Nat} {W0 wA w' : World} {e : TypeId} {size : Nat} {v : Value} {n : Nat} {xs : List Value} (hb : Below B W0 wA) (hown : wA.ownsRow B e size v n xs) (hB : B ≤ wA.heap.size) (hg : wA.grownBy w' v.ownBlock) : Below B W0 w' := by
  refine ⟨hg.os.trans hb.os, hg.tape.trans hb.tape, hg.output.trans hb.output, Nat.le_trans hb.size hg.size, fun k hk => ?_⟩
  refine (hg.block k (by omega) ?_).trans (hb.block k hk)
  rcases hown.2 with ⟨rfl, _⟩ | ⟨g, cap, cur, rfl, hbg, _⟩
  · simp [Value.ownBlock]
  · simp [Value.ownBlock]
    omega
theorem own_row {w : World} {base g n cap : Nat} {l : List Sec} (h : w.ownsRow base 26 6 (.slice (some ⟨g, 0, none⟩) n cap) n (flatS l)) (hl : l.length ≤ n) : Row w g 0 l :=
  row_of fun j hj => by rw [Nat.zero_add]; exact h.cellAt j (by omega)
theorem own_secs {W : World} {base : Nat} {v : Value} {l : List Sec} (h : W.ownsRow base 26 6 v l.length (flatS l)) (hl : l.length ≤ 9223372036854775807) : Secs W v l := by
  obtain ⟨p, c, rfl, hc, hn⟩ := own_form h
  refine ⟨⟨p, c, rfl, hn, hc, fun h0 => ?_⟩, hl⟩
  obtain ⟨k, hk⟩ : ∃ k, l.length = k + 1 := ⟨l.length - 1, by omega⟩
  have h' := h
  rw [hk] at h'
  obtain ⟨g, cap, e⟩ := ownsRow_succ h'
  rw [← hk] at e
  cases e
  exact ⟨g, 0, rfl, own_row h (Nat.le_refl _)⟩
theorem own_cat {B : Nat} {w' : World} {v' : Value} {a b : List Sec} {m : Nat} (h : w'.ownsRow B 26 6 v' m (flatS a ++ flatS b)) (hm : m = a.length + b.length) :
    w'.ownsRow B 26 6 v' (a ++ b).length (flatS (a ++ b)) := by
  rw [List.length_append, flatS_app]
  subst hm
  exact h

set_option maxRecDepth 100000 in
set_option maxHeartbeats 3200000 in
theorem grow_c (n : Nat) (hn : n ≤ 400) (w : World) :
    Calls Try.prog 78 #[.slice none 0 0, (.int .i64 n)] w (fun e W' => ∃ v, e = .returned v ∧ W'.ownsRow w.heap.size 26 6 v 0 [] ∧ Below w.heap.size w W') := by
  obtain ⟨i0, hi, hz0, hz1, hz2⟩ := info_parts info_s
  have x1 : IntKind.i64.wrap (n : Int) = (n : Int) := IntWalk.i64_in _ (by omega)
  go_enter Try.func78, Try.ntmps78
  by_cases h0 : n = 0
  · subst h0
    go_wp2
    go_ret
    exact ⟨_, rfl, World.ownsRow_nil _ _ _ _, Below.refl _ _⟩
  · have hG : n ≤ grownCap w (0 + n) 0 26 := by have := grownCap_ge w (0 + n) 0 26; omega
    have hM := grownCap_le_maxLen w (0 + n) 0 26 (by unfold maxLen; omega)
    have hrz : ∀ ty, (Builtin.append_ #[53, 3] ty #[.slice none 0 0, .int .i64 (n : Int)]).run Try.prog w =
        .ok (.slice (some ⟨w.heap.size, 0, none⟩) (0 + n) (grownCap w (0 + n) 0 26)) (w.drew.alloc (.cells (([] : List Value).toArray ++ Builtin.zeroCells (Value.cells (.agg #[(.int .i64 0), (.int .i64 0), (.int .i64 0), (.int .i64 0), (.int .i64 0), (.int .i64 0)])) n ++ Builtin.zeroCells (Value.cells (.agg #[(.int .i64 0), (.int .i64 0), (.int .i64 0), (.int .i64 0), (.int .i64 0), (.int .i64 0)])) (grownCap w (0 + n) 0 26 - (0 + n))) 26)) := fun ty =>
      Lib.run_append_grow_zeros w 53 3 ty 26 i0 (.agg #[(.int .i64 0), (.int .i64 0), (.int .i64 0), (.int .i64 0), (.int .i64 0), (.int .i64 0)]) .i64 .i64 Try.underlying53 Try.underlying3 hi hz0 none 0 0 [] (run_firstCells_none _ _ _ _ _) n (by omega) (by rw [hz1]; omega) (by omega) (by omega) (by rw [hz2]; omega) (growslice_fits (by omega) (by rw [hz2]; omega))
    obtain ⟨G, hGe⟩ : ∃ G, grownCap w (0 + n) 0 26 = G := ⟨_, rfl⟩
    rw [hGe] at hG hM
    simp only [hGe] at hrz
    have hG63 : G ≤ 9223372036854775807 := by unfold maxLen at hM; omega
    have hpos : (0 : Int) < (n : Int) := by omega
    have HI := Lib.hid hi
    have HM := Lib.hid hM
    clear hi hGe hM
    go_wp2_with (at_builtin; refine Lib.wpList_append_run _ rfl _ _ _ _ rfl _ _ rfl rfl _ _ (hrz _) ?_)
    all_goals (go_ret; refine ⟨_, rfl, ⟨rfl, .inr ⟨w.heap.size, _, _, rfl, Nat.le_refl _, heap_alloc_new w.drew _, Nat.zero_le _, HM.out, ?_, by simp⟩⟩, (by repeat (first | with_reducible exact Below.refl _ _ | with_reducible assumption | with_reducible refine Below.setCell ?_ (by first | omega | (simp <;> omega)) _ | with_reducible refine balloc ?_ _ | with_reducible refine Below.drew ?_ | with_reducible refine bstep ?_ (by with_reducible assumption)))⟩)
    all_goals (simp only [Array.size_append, List.size_toArray, size_zeroCells]; simp [Value.cells]; omega)

def gl (ls : List (List Sec)) (i : Nat) : List Sec := ls.getD i []
theorem fl_succ {ls : List (List Sec)} {k : Nat} (h : k < ls.length) : (ls.take (k + 1)).flatten = (ls.take k).flatten ++ gl ls k := by
  rw [List.take_add_one, List.getElem?_eq_getElem h, List.flatten_append]
  unfold gl
  rw [List.getD_eq_getElem?_getD, List.getElem?_eq_getElem h]
  simp
theorem fl_len {ls : List (List Sec)} (h24 : ∀ i, i < ls.length → (gl ls i).length ≤ 24) (k : Nat) (hk : k ≤ ls.length) : (ls.take k).flatten.length ≤ 24 * k := by
  induction k with
  | zero => simp
  | succ k ih =>
    rw [fl_succ (by omega), List.length_append]
    have := ih (by omega)
    have := h24 k (by omega)
    omega

set_option maxRecDepth 100000 in
set_option maxHeartbeats 6400000 in
theorem concat_c (gq : Nat) (ls : List (List Sec)) (f : Nat → Value) (w : World) (h0 : 0 < ls.length) (h4 : ls.length ≤ 4) (h24 : ∀ i, i < ls.length → (gl ls i).length ≤ 24)
    (hc : ∀ i, i < ls.length → w.cell? ⟨gq, i, none⟩ = some (f i) ∧ Secs w (f i) (gl ls i)) :
    Calls Try.prog 68 #[.slice (some ⟨gq, 0, none⟩) ls.length ls.length] w (fun e W' => ∃ v, e = .returned v ∧ W'.ownsRow w.heap.size 26 6 v ls.flatten.length (flatS ls.flatten) ∧ Below w.heap.size w W') := by
  obtain ⟨i0, hi, hz0, hz1, hz2⟩ := info_parts info_s
  have hgq : gq < w.heap.size := World.block_lt_of_cell? _ _ (hc 0 h0).1
  have hll := fl_len h24
  have HI := Lib.hid hi
  have HC := Lib.hid hc
  have HL := Lib.hid hll
  clear hi hc hll
  go_enter Try.func68, Try.ntmps68
  go_wp2_with fail
  go_loopw [3, 11] (fun s3 i wr => w = wr ∧ ∃ k : Nat, i = (.int .i64 k) ∧ k ≤ ls.length ∧ s3 = (.int .i64 (((ls.take k).flatten.length : Nat)))) (fun _ i _ => ls.length - (intOf i).toNat)
  case atStart => exact ⟨rfl, 0, rfl, by omega, rfl⟩
  case round =>
    obtain ⟨rfl, k, rfl, hk, rfl⟩ := hrel
    by_cases hlt : k < ls.length
    · obtain ⟨k1, hS⟩ := HC.out k hlt
      obtain ⟨⟨p, cap, hv, hn, hcp, hp⟩, hlen⟩ := hS
      rw [hv] at k1
      have hb1 := HL.out k (by omega)
      have hb2 := h24 k hlt
      have HN := Lib.hid (congrArg List.length (fl_succ hlt))
      clear hp hv hn
      generalize hT : (ls.take k).flatten.length = T at *
      generalize hU : (gl ls k).length = U at *
      have HT := Lib.hid hT
      have HU := Lib.hid hU
      clear hT hU
      have x1 : IntKind.i64.wrap ((T : Int) + (U : Int)) = (T : Int) + (U : Int) := IntWalk.i64_in _ (by omega)
      have n1 : ¬ ((T : Int) + (U : Int) < 0) := by omega
      go_wp2
      go_roundw
      case rel => exact ⟨trivial, k + 1, by simp, by omega, by rw [HN.out, List.length_append, HT.out, HU.out]; simp⟩
      case measure => simp [intOf]; omega
    · obtain rfl : k = ls.length := by omega
      have hb1 := HL.out ls.length (by omega)
      have HF := Lib.hid (show (ls.take ls.length).flatten = ls.flatten by rw [List.take_length])
      generalize hT : (ls.take ls.length).flatten.length = T at *
      clear hT
      go_wp2_with fail
      refine (grow_c T (by omega) _).mono ?_
      rintro e w2 ⟨vg, rfl, hown, hb⟩
      have HO := Lib.hid hown
      clear hown
      go_wp2_with fail
      go_loopw [6, 27] (fun s6 i wr => ∃ (k : Nat) (vs : Value), i = (.int .i64 k) ∧ s6 = vs ∧ k ≤ ls.length ∧ wr.ownsRow w.heap.size 26 6 vs (ls.take k).flatten.length (flatS (ls.take k).flatten) ∧ Below w.heap.size w wr) (fun _ i _ => ls.length - (intOf i).toNat)
      case atStart => exact ⟨0, _, rfl, rfl, by omega, HO.out, hb⟩
      case round =>
        obtain ⟨k, vs, rfl, rfl, hk, hown, hbel⟩ := hrel
        have HO1 := Lib.hid hown
        clear hown
        by_cases hlt : k < ls.length
        · obtain ⟨k1, hS⟩ := HC.out k hlt
          have q1 : wr.cell? ⟨gq, k, none⟩ = _ := (hbel.cell hgq).trans k1
          have hS' := hS.below hbel
          obtain ⟨⟨p, cap, hv, hn, hcp, hp⟩, hlen⟩ := hS'
          rw [hv] at q1
          have hb2 := h24 k hlt
          have hb3 := HL.out k hk
          have HN := Lib.hid (fl_succ hlt)
          clear k1 hS hv hlen
          cases p with
          | none =>
            have hc0 := hn rfl
            subst hc0
            have hu : gl ls k = [] := List.length_eq_zero_iff.1 (by omega)
            have HU := Lib.hid hu
            rw [hu] at q1
            clear hp hn hu
            go_wp2_with (at_builtin; refine wpList_append_own_none rfl _ _ 53 rfl w.heap.size 26 i0 6 Try.underlying53 HI.out _ _ _ rfl HO1.out rfl ?_)
            exact ⟨⟨k + 1, _, rfl, rfl, by omega, by rw [HN.out, HU.out, List.append_nil]; exact HO1.out, hbel⟩, by simp [intOf]; omega⟩
          | some ad =>
            have hnews : ∀ j u, (flatS (gl ls k))[j]? = some u → wr.cell? (ad.add j) = some u := by
              by_cases h00 : 0 < (gl ls k).length
              · obtain ⟨b, off, e, hr⟩ := hp h00
                cases e
                exact row_news hr
              · have : gl ls k = [] := List.length_eq_zero_iff.1 (by omega)
                rw [this]
                intro j u h
                simp [flatS] at h
            have HW := Lib.hid hnews
            have HFL := Lib.hid (flatS_length (gl ls k))
            have HF1 := Lib.hid (flatS_one (gl ls k))
            clear hp hn hnews
            go_wp2_with (at_builtin; go_must (refine wpList_append_own _ rfl _ _ 53 rfl w.heap.size 26 i0 (.agg #[(.int .i64 0), (.int .i64 0), (.int .i64 0), (.int .i64 0), (.int .i64 0), (.int .i64 0)]) 6 48 Try.underlying53 HI.out hz0 hz1 hz2 rfl (by decide) _ _ _ rfl HO1.out ad (gl ls k).length cap (flatS (gl ls k)) rfl HFL.out HW.out HF1.out (by unfold maxLen; omega) (by omega) (by have := hbel.size; omega) ?_); intro v' w1 hown' hgrow _)
            have hR1 := below_app2 hbel HO1.out (by have := hbel.size; omega) hgrow
            have HR2 := Lib.hid (own_cat hown' rfl)
            clear hown' hgrow
            exact ⟨⟨k + 1, _, rfl, rfl, by omega, by rw [HN.out]; exact HR2.out, hR1⟩, by simp [intOf]; omega⟩
        · obtain rfl : k = ls.length := by omega
          go_wp2
          go_ret
          exact ⟨_, rfl, by have := HO1.out; rwa [HF.out] at this, hbel⟩


end Go.Proofs.Ytpadkmlckmopfaa.Se
