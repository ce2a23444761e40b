/- SafA: safer lights; what is not valid. -/
import Derived.Test.YtpadkmlckmopfaaSecTn
import Derived.Test.YtpadkmlckmopfaaSecT
import Derived.Test.YtpadkmlckmopfaaSecI
import Derived.Test.YtpadkmlckmopfaaRows
import Derived.WalkKit
import Derived.WalkSpells
import Derived.WalkLawsBesides
import Derived.Lib.Hide
import Derived.Deep.QuietTactic
import Derived.BigQuiet
import Derived.RegionTactic
import Derived.ChangeAlike
import Derived.BigRegion
import Derived.Deep.RegionHeld3
import Derived.Deep.RegionWith
import Derived.Outline
import Derived.IntWalk
import Derived.Deep.DeepCutAuto
namespace Go.Proofs.Ytpadkmlckmopfaa.Se
open Go.RowKit
set_option linter.unusedSimpArgs false
set_option linter.unusedVariables false

theorem own_baseT {W : World} {base base' : Nat} {e : TypeId} {size : Nat} {v : Value} {n : Nat} {xs : List Value} (h : W.ownsRow base e size v n xs) (hb : base' ≤ base) : W.ownsRow base' e size v n xs := by
  obtain ⟨h1, h2⟩ := h
  refine ⟨h1, ?_⟩
  rcases h2 with h | ⟨g, cap, cur, a, b, c⟩
  · exact .inl h
  · exact .inr ⟨g, cap, cur, a, Nat.le_trans hb b, c⟩
theorem own_belowT {W W' : World} {base : Nat} {e : TypeId} {size : Nat} {v : Value} {n : Nat} {xs : List Value} (h : W.ownsRow base e size v n xs) (hb : Below W.heap.size W W') : W'.ownsRow base e size v n xs := by
  have hg : W.grownBy W' none := ⟨hb.os, hb.tape, hb.output, hb.size, fun k hk _ => hb.block k hk⟩
  exact h.kept hg (by cases hv : v.ownBlock with | none => exact .inl rfl | some k => exact .inr (by simp))
/-- b looks safer than a in the direction t. -/
def sfV (l m : List Sec) (t : V) : Bool := decide ((shL m t).1 = 1) && (!decide ((shL l t).1 = 1) || decide ((shL l t).2 < (shL m t).2))
def sfK (l m : List Sec) (T : List V) (k : Nat) : Bool := (List.range k).any fun j => sfV l m (gv T j)
theorem sfK_succ (l m : List Sec) (T : List V) (k : Nat) : sfK l m T (k + 1) = (sfK l m T k || sfV l m (gv T k)) := by simp [sfK, List.range_succ]
theorem sf_all (l m : List Sec) : sfK l m (tuL (l ++ m)) (tuL (l ++ m)).length = !hoL m l 1 := by
  rw [Bool.eq_iff_iff, Bool.not_eq_true']
  unfold sfK hoL
  rw [List.any_eq_true, List.all_eq_false]
  have bad : ∀ t, badV m l 1 t = sfV l m t := fun t => rfl
  constructor
  · rintro ⟨j, hj, h⟩
    have hj := List.mem_range.1 hj
    have hm : gv (tuL (l ++ m)) j ∈ tuL (l ++ m) := by
      unfold gv
      rw [List.getD_eq_getElem?_getD, List.getElem?_eq_getElem hj]
      exact List.getElem_mem hj
    generalize gv (tuL (l ++ m)) j = t at *
    refine ⟨t, ?_, by rw [bad, h]; simp⟩
    rw [tuL_app, List.mem_append] at hm ⊢
    exact hm.symm
  · rintro ⟨t, ht, h⟩
    have ht2 : t ∈ tuL (l ++ m) := by
      rw [tuL_app, List.mem_append] at ht ⊢
      exact ht.symm
    obtain ⟨j, hj, rfl⟩ := List.getElem_of_mem ht2
    refine ⟨j, List.mem_range.2 hj, ?_⟩
    have e : gv (tuL (l ++ m)) j = (tuL (l ++ m))[j] := by simp [gv, hj]
    rw [e, ← bad]
    simpa using h
theorem sf_in {l m : List Sec} {k : Nat} (hk : k < (tuL (l ++ m)).length) (h : sfV l m (gv (tuL (l ++ m)) k) = true) : (!hoL m l 1) = true := by
  rw [← sf_all]
  exact List.any_eq_true.2 ⟨k, List.mem_range.2 hk, h⟩
theorem sf_any {l m : List Sec} (hl : allS l) (hm : allS m) {v : V} (hv : okD v = true) (h : sfV l m v = true) : (!hoL m l 1) = true := by
  rw [Bool.not_eq_true', Bool.eq_false_iff]
  intro hh
  have := (ho_iff hm hl (by omega)).1 hh v hv
  unfold sfV at h
  simp only [Bool.and_eq_true, Bool.or_eq_true, Bool.not_eq_true', decide_eq_true_eq, decide_eq_false_iff_not] at h
  obtain ⟨h1, h2⟩ := h
  have := this h1
  omega
theorem gv_mem {T : List V} {k : Nat} (h : k < T.length) : gv T k ∈ T := by
  unfold gv
  rw [List.getD_eq_getElem?_getD, List.getElem?_eq_getElem h]
  exact List.getElem_mem h
theorem gv_app {T : List V} {v : V} {k : Nat} (h : k < T.length) : gv (T ++ [v]) k = gv T k := by
  unfold gv
  rw [List.getD_eq_getElem?_getD, List.getD_eq_getElem?_getD, List.getElem?_append_left h]
theorem gv_last (T : List V) (v : V) : gv (T ++ [v]) T.length = v := by
  unfold gv
  rw [List.getD_eq_getElem?_getD, List.getElem?_append_right (Nat.le_refl _)]
  simp
theorem allS_app2 {l m : List Sec} (hl : allS l) (hm : allS m) : allS (l ++ m) := by
  intro i hi
  rw [List.length_append] at hi
  rcases Nat.lt_or_ge i l.length with h | h
  · have e : gs (l ++ m) i = gs l i := by unfold gs; rw [List.getD_eq_getElem?_getD, List.getD_eq_getElem?_getD, List.getElem?_append_left h]
    rw [e]; exact hl i h
  · have e : gs (l ++ m) i = gs m (i - l.length) := by unfold gs; rw [List.getD_eq_getElem?_getD, List.getD_eq_getElem?_getD, List.getElem?_append_right h]
    rw [e]; exact hm _ (by omega)

set_option maxRecDepth 100000 in
set_option maxHeartbeats 6400000 in
theorem safer_bad (va vb : Value) (l m : List Sec) (v1 v2 : Int) (w : World) (ha : Secs w va l) (hb : Secs w vb m) (hd : ∀ W, Calls Try.prog 11 #[] W (Ret W (.bool true))) (hn : (vaL l && vaL m) = false) : Calls Try.prog 7 #[va, vb, (.agg #[.int .i64 v1, .int .i64 v2])] w (Ret w (.bool true)) := by
  have HA := Lib.hid ha
  have HB := Lib.hid hb
  have HN := Lib.hid hn
  have HD := Lib.hid hd
  clear ha hb hn hd
  cases hl : vaL l
  all_goals
    have HL := Lib.hid hl
    clear hl
    go_enter Try.func7, Try.ntmps7
    go_wp2_with fail
    refine Calls.mono (HD.out _) ?_
    rintro e w1 ⟨rfl, hb1⟩
    have h1 : Below w.heap.size w w1 := (by repeat (first | with_reducible exact Below.refl _ _ | with_reducible assumption | with_reducible refine Below.setCell ?_ (by first | omega | (simp <;> omega)) _ | with_reducible refine balloc ?_ _ | with_reducible refine Below.drew ?_ | with_reducible refine bstep ?_ (by with_reducible assumption)))
    go_wp2_with fail
    refine Calls.mono (Safer_no _ _ l m _ (HA.out.below h1) (HB.out.below h1) HN.out) ?_
    rintro e w2 ⟨rfl, hb2⟩
    have h2 : Below w.heap.size w w2 := (by repeat (first | with_reducible exact Below.refl _ _ | with_reducible assumption | with_reducible refine Below.setCell ?_ (by first | omega | (simp <;> omega)) _ | with_reducible refine balloc ?_ _ | with_reducible refine Below.drew ?_ | with_reducible refine bstep ?_ (by with_reducible assumption)))
    go_wp2_with fail
    refine Calls.mono (Valid_c _ l _ (HA.out.below h2)) ?_
    rintro e w3 ⟨rfl, hb3⟩
    have h3 : Below w.heap.size w w3 := (by repeat (first | with_reducible exact Below.refl _ _ | with_reducible assumption | with_reducible refine Below.setCell ?_ (by first | omega | (simp <;> omega)) _ | with_reducible refine balloc ?_ _ | with_reducible refine Below.drew ?_ | with_reducible refine bstep ?_ (by with_reducible assumption)))
    rw [HL.out]
  · go_wp2
    go_ret
    exact ⟨rfl, h3⟩
  · have hm : vaL m = false := by have := HN.out; rw [HL.out] at this; exact this
    go_wp2_with fail
    refine Calls.mono (Valid_c _ m _ (HB.out.below h3)) ?_
    rintro e w4 ⟨rfl, hb4⟩
    rw [hm]
    go_wp2
    go_ret
    exact ⟨rfl, (by repeat (first | with_reducible exact Below.refl _ _ | with_reducible assumption | with_reducible refine Below.setCell ?_ (by first | omega | (simp <;> omega)) _ | with_reducible refine balloc ?_ _ | with_reducible refine Below.drew ?_ | with_reducible refine bstep ?_ (by with_reducible assumption)))⟩

end Go.Proofs.Ytpadkmlckmopfaa.Se
