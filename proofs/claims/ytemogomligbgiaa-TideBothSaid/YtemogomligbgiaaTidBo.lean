/- TidBo: two tables of the same times. -/
import Derived.Test.YtemogomligbgiaaTidZ
import Derived.Test.YtemogomligbgiaaRows
import Derived.WalkKit
import Derived.WalkSpells
import Derived.WalkLawsBesides
import Derived.Lib.Hide
import Derived.Deep.QuietTactic
import Derived.BigQuiet
import Derived.RegionTactic
import Derived.ChangeAlike
import Derived.BigRegion
import Derived.Deep.RegionHeld3
import Derived.Deep.RegionWith
import Derived.Outline
import Derived.IntWalk
import Derived.Deep.DeepCutAuto
import Derived.LoopTactic
namespace Go.Proofs.Ytemogomligbgiaa.Ti
open Go.RowKit Sp
set_option linter.unusedSimpArgs false
set_option linter.unusedVariables false

theorem at_cases {s p : Int} {n : Nat} (hp : 0 < p) {y : Int} (h1 : s ≤ y) (h2 : y ≤ s + ((n : Int) - 1) * p) : (∃ k, k < n ∧ ∀ L, At s p L y = gt L k) ∨ (∃ k, 0 < k ∧ k < n ∧ ∀ L, At s p L y = jn (gt L (k - 1)) (gt L k)) := by
  obtain ⟨X, hX, c1, c2⟩ := str_cover (l := []) (n := n) hp h1 h2
  rcases stK_mem.1 hX with ⟨k, hk, rfl⟩ | ⟨_, k, h0, hk, rfl⟩
  · simp only [ptS] at c1 c2
    obtain rfl : y = s + k * p := by omega
    exact .inl ⟨k, hk, fun L => at_pt L hp k⟩
  · simp only [mdS] at c1 c2
    exact .inr ⟨k, h0, hk, fun L => at_md L hp h0 c1 c2⟩
theorem jL_len (l l2 : List Pr) : (jL l l2).length = l.length := upto_length _ _
theorem mL_len (l l2 : List Pr) : (mL l l2).length = l.length := upto_length _ _
theorem jL_gt (l l2 : List Pr) {k : Nat} (h : k < l.length) : gt (jL l l2) k = jn (gt l k) (gt l2 k) := gt_upto _ h
theorem mL_gt (l l2 : List Pr) {k : Nat} (h : k < l.length) : gt (mL l l2) k = mt (gt l k) (gt l2 k) := gt_upto _ h
theorem mL_comm {l l2 : List Pr} (h : l2.length = l.length) : mL l2 l = mL l l2 := by
  refine gt_ext (by rw [mL_len, mL_len, h]) (fun i hi => ?_)
  rw [mL_len] at hi
  rw [mL_gt l2 l hi, mL_gt l l2 (by omega)]
  simp only [mt, Prod.mk.injEq]
  omega
theorem mG_comm {l l2 : List Pr} (h : l2.length = l.length) : mG l2 l = mG l l2 := by
  unfold mG
  rw [h, Bool.eq_iff_iff, allG_iff, allG_iff]
  simp only [rM_iff]
  exact ⟨fun hh k hk => by have := hh k hk; omega, fun hh k hk => by have := hh k hk; omega⟩
theorem va_jn {s p : Int} {l l2 : List Pr} (h : vaT s p l = true) (h2 : vaT s p l2 = true) (hl : l2.length = l.length) : vaT s p (jL l l2) = true := by
  obtain ⟨a, b, c, d, v1⟩ := vaT_iff.1 h
  obtain ⟨_, _, _, _, v2⟩ := vaT_iff.1 h2
  refine vaT_iff.2 ⟨a, b, by rw [jL_len]; exact c, by unfold laT at *; rw [jL_len]; exact d, all_of_gt fun i hi => ?_⟩
  rw [jL_len] at hi
  rw [jL_gt l l2 hi]
  exact jn_ok (all_gt' v1 i) (all_gt' v2 i)
theorem va_mt {s p : Int} {l l2 : List Pr} (h : vaT s p l = true) (h2 : vaT s p l2 = true) (hl : l2.length = l.length) (hg : mG l l2 = true) : vaT s p (mL l l2) = true := by
  obtain ⟨a, b, c, d, v1⟩ := vaT_iff.1 h
  obtain ⟨_, _, _, _, v2⟩ := vaT_iff.1 h2
  refine vaT_iff.2 ⟨a, b, by rw [mL_len]; exact c, by unfold laT at *; rw [mL_len]; exact d, all_of_gt fun i hi => ?_⟩
  rw [mL_len] at hi
  rw [mL_gt l l2 hi]
  have e1 := okH_iff.1 (all_gt' v1 i)
  have e2 := okH_iff.1 (all_gt' v2 i)
  have e3 := rM_iff.1 (allG_iff.1 hg i hi)
  rw [okH_iff]
  simp only [mt]
  omega
theorem hE_va {s p : Int} {l l2 : List Pr} (h : vaT s p l = true) (h2 : vaT s p l2 = true) (hl : l2.length = l.length) (f u : Int) : hE s p l2 f u = hE s p l f u := by
  have e0 : laT s p l2 = laT s p l := by unfold laT; rw [hl]
  unfold hE hOk hIn
  rw [e0, h, h2]
theorem du_jn {s p : Int} {l l2 : List Pr} (hp : 0 < p) (hl : l2.length = l.length) {a : Pr} (h1 : s ≤ a.1) (h2 : a.1 ≤ a.2) (h3 : a.2 ≤ laT s p l) : duT s p (jL l l2) a = jn (duT s p l a) (duT s p l2 a) := by
  have e1 : laT s p (jL l l2) = laT s p l := by unfold laT; rw [jL_len]
  have e2 : laT s p l2 = laT s p l := by unfold laT; rw [hl]
  have key : ∀ y, a.1 ≤ y → y ≤ a.2 → At s p (jL l l2) y = jn (At s p l y) (At s p l2 y) := fun y y1 y2 => by
    rcases at_cases (s := s) (n := l.length) hp (y := y) (by omega) (by unfold laT at h3; omega) with ⟨k, hk, e⟩ | ⟨k, h0, hk, e⟩
    · rw [e, e, e, jL_gt l l2 hk]
    · rw [e, e, e, jL_gt l l2 hk, jL_gt l l2 (show k - 1 < l.length by omega)]
      simp only [jn, Prod.mk.injEq]
      omega
  refine Prod.ext (le_ext fun m => ?_) (ge_ext fun m => ?_)
  · rw [du_lo hp h1 h2 (by rw [e1]; exact h3)]
    simp only [jn]
    rw [show m ≤ min (duT s p l a).1 (duT s p l2 a).1 ↔ m ≤ (duT s p l a).1 ∧ m ≤ (duT s p l2 a).1 by omega, du_lo hp h1 h2 h3, du_lo hp h1 h2 (by rw [e2]; exact h3)]
    constructor
    · exact fun h => ⟨fun y y1 y2 => by have := h y y1 y2; rw [key y y1 y2] at this; simp only [jn] at this; omega, fun y y1 y2 => by have := h y y1 y2; rw [key y y1 y2] at this; simp only [jn] at this; omega⟩
    · rintro ⟨x1, x2⟩ y y1 y2
      rw [key y y1 y2]
      simp only [jn]
      have := x1 y y1 y2
      have := x2 y y1 y2
      omega
  · rw [du_hi hp h1 h2 (by rw [e1]; exact h3)]
    simp only [jn]
    rw [show max (duT s p l a).2 (duT s p l2 a).2 ≤ m ↔ (duT s p l a).2 ≤ m ∧ (duT s p l2 a).2 ≤ m by omega, du_hi hp h1 h2 h3, du_hi hp h1 h2 (by rw [e2]; exact h3)]
    constructor
    · exact fun h => ⟨fun y y1 y2 => by have := h y y1 y2; rw [key y y1 y2] at this; simp only [jn] at this; omega, fun y y1 y2 => by have := h y y1 y2; rw [key y y1 y2] at this; simp only [jn] at this; omega⟩
    · rintro ⟨x1, x2⟩ y y1 y2
      rw [key y y1 y2]
      simp only [jn]
      have := x1 y y1 y2
      have := x2 y y1 y2
      omega
theorem du_mt {s p : Int} {l l2 : List Pr} (hp : 0 < p) (hl : l2.length = l.length) {a : Pr} (h1 : s ≤ a.1) (h2 : a.1 ≤ a.2) (h3 : a.2 ≤ laT s p l) :
    ((duT s p l a).1 ≤ (duT s p (mL l l2) a).1 ∧ (duT s p l2 a).1 ≤ (duT s p (mL l l2) a).1) ∧ (duT s p (mL l l2) a).2 ≤ (duT s p l a).2 ∧ (duT s p (mL l l2) a).2 ≤ (duT s p l2 a).2 := by
  have e1 : laT s p (mL l l2) = laT s p l := by unfold laT; rw [mL_len]
  have e2 : laT s p l2 = laT s p l := by unfold laT; rw [hl]
  have key : ∀ y, a.1 ≤ y → y ≤ a.2 → ((At s p l y).1 ≤ (At s p (mL l l2) y).1 ∧ (At s p l2 y).1 ≤ (At s p (mL l l2) y).1) ∧ (At s p (mL l l2) y).2 ≤ (At s p l y).2 ∧ (At s p (mL l l2) y).2 ≤ (At s p l2 y).2 := fun y y1 y2 => by
    rcases at_cases (s := s) (n := l.length) hp (y := y) (by omega) (by unfold laT at h3; omega) with ⟨k, hk, e⟩ | ⟨k, h0, hk, e⟩
    · rw [e, e, e, mL_gt l l2 hk]
      simp only [mt]
      omega
    · rw [e, e, e, mL_gt l l2 hk, mL_gt l l2 (show k - 1 < l.length by omega)]
      simp only [jn, mt]
      omega
  refine ⟨⟨?_, ?_⟩, ?_, ?_⟩
  · rw [du_lo hp h1 h2 (by rw [e1]; exact h3)]
    exact fun y y1 y2 => Int.le_trans ((du_lo hp h1 h2 h3).1 (Int.le_refl _) y y1 y2) (key y y1 y2).1.1
  · rw [du_lo hp h1 h2 (by rw [e1]; exact h3)]
    exact fun y y1 y2 => Int.le_trans ((du_lo hp h1 h2 (by rw [e2]; exact h3)).1 (Int.le_refl _) y y1 y2) (key y y1 y2).1.2
  · rw [du_hi hp h1 h2 (by rw [e1]; exact h3)]
    exact fun y y1 y2 => Int.le_trans (key y y1 y2).2.1 ((du_hi hp h1 h2 h3).1 (Int.le_refl _) y y1 y2)
  · rw [du_hi hp h1 h2 (by rw [e1]; exact h3)]
    exact fun y y1 y2 => Int.le_trans (key y y1 y2).2.2 ((du_hi hp h1 h2 (by rw [e2]; exact h3)).1 (Int.le_refl _) y y1 y2)
/-- What holds of two tables of the same times. -/
theorem both_facts {s p : Int} {l l2 : List Pr} (h : vaT s p l = true) (h2 : vaT s p l2 = true) (hl : l2.length = l.length) (f u : Int) (e : hE s p l f u = 0) :
    hE s p l2 f u = 0 ∧ hE s p (jL l l2) f u = 0 ∧ hV s p (jL l l2) f u = jn (hV s p l f u) (hV s p l2 f u) ∧ okH (hV s p l f u) = true ∧ okH (hV s p l2 f u) = true ∧
    (mG l l2 = true → hE s p (mL l l2) f u = 0 ∧ okH (hV s p (mL l l2) f u) = true ∧ ((hV s p l f u).1 ≤ (hV s p (mL l l2) f u).1 ∧ (hV s p l2 f u).1 ≤ (hV s p (mL l l2) f u).1) ∧ (hV s p (mL l l2) f u).2 ≤ (hV s p l f u).2 ∧ (hV s p (mL l l2) f u).2 ≤ (hV s p l2 f u).2) := by
  have e2 := (hE_va h h2 hl f u).trans e
  have e3 := (hE_va h (va_jn h h2 hl) (jL_len l l2) f u).trans e
  obtain ⟨⟨_, _, _, fu⟩, a1, a2, a3⟩ := hE_zero e
  obtain ⟨_, _, _, b3⟩ := hE_zero e2
  obtain ⟨_, _, _, c3⟩ := hE_zero e3
  obtain ⟨_, ⟨hp1, _⟩, _, _, v1⟩ := vaT_iff.1 h
  obtain ⟨_, _, _, _, v2⟩ := vaT_iff.1 h2
  rw [a3, b3, c3]
  refine ⟨e2, e3, du_jn (by omega) hl a1 fu a2, duT_ok v1 _, duT_ok v2 _, fun hg => ?_⟩
  have vm := va_mt h h2 hl hg
  have e4 := (hE_va h vm (mL_len l l2) f u).trans e
  obtain ⟨_, _, _, d3⟩ := hE_zero e4
  rw [d3]
  exact ⟨e4, duT_ok (vaT_iff.1 vm).2.2.2.2 _, du_mt (by omega) hl a1 fu a2⟩

set_option maxHeartbeats 1600000 in
theorem same_t (s p : Int) (va vb : Value) (a : List Pr) (w : World) (ha : Spans w va a) (hb : Spans w vb a) : Calls Try.prog 24 #[.agg #[(.int .i64 s), (.int .i64 p), va], .agg #[(.int .i64 s), (.int .i64 p), vb]] w (Ret w (.bool true)) := by
  obtain ⟨⟨pa, ca, rfl, _, _, hpa⟩, hla⟩ := id ha
  obtain ⟨⟨pb, cb, rfl, _, _, hpb⟩, hlb⟩ := id hb
  clear hpa hpb
  go_enter Try.func24, Try.ntmps24
  go_wp2_with fail
  refine Calls.mono (SQ _ _ a _ (ha.below (by repeat (first | with_reducible exact Below.refl _ _ | with_reducible assumption | with_reducible refine Below.setCell ?_ (by first | omega | (simp <;> omega)) _ | with_reducible refine balloc ?_ _ | with_reducible refine Below.drew ?_ | with_reducible refine bstep ?_ (by with_reducible assumption)))) (hb.below (by repeat (first | with_reducible exact Below.refl _ _ | with_reducible assumption | with_reducible refine Below.setCell ?_ (by first | omega | (simp <;> omega)) _ | with_reducible refine balloc ?_ _ | with_reducible refine Below.drew ?_ | with_reducible refine bstep ?_ (by with_reducible assumption))))) ?_
  rintro e w1 ⟨rfl, hq⟩
  have hb0 : Below w.heap.size w w1 := (by repeat (first | with_reducible exact Below.refl _ _ | with_reducible assumption | with_reducible refine Below.setCell ?_ (by first | omega | (simp <;> omega)) _ | with_reducible refine balloc ?_ _ | with_reducible refine Below.drew ?_ | with_reducible refine bstep ?_ (by with_reducible assumption)))
  clear hq
  go_wp2
  go_ret
  exact ⟨rfl, (by repeat (first | with_reducible exact Below.refl _ _ | with_reducible assumption | with_reducible refine Below.setCell ?_ (by first | omega | (simp <;> omega)) _ | with_reducible refine balloc ?_ _ | with_reducible refine Below.drew ?_ | with_reducible refine bstep ?_ (by with_reducible assumption)))⟩


end Go.Proofs.Ytemogomligbgiaa.Ti
