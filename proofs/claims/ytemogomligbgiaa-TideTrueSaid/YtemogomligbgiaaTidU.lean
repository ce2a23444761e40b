/- TidU: small functions of the laws. -/
import Derived.Test.YtemogomligbgiaaTidT
import Derived.Test.YtemogomligbgiaaRows
import Derived.WalkKit
import Derived.WalkSpells
import Derived.WalkLawsBesides
import Derived.Lib.Hide
import Derived.Deep.QuietTactic
import Derived.BigQuiet
import Derived.RegionTactic
import Derived.ChangeAlike
import Derived.BigRegion
import Derived.Deep.RegionHeld3
import Derived.Deep.RegionWith
import Derived.Outline
import Derived.IntWalk
import Derived.Deep.DeepCutAuto
import Derived.LoopTactic
namespace Go.Proofs.Ytemogomligbgiaa.Ti
open Go.RowKit Sp
set_option linter.unusedSimpArgs false
set_option linter.unusedVariables false

def fewB (p : Int) (l : List Pr) : Bool := decide (l.length ≤ 12) && decide (p ≤ 60)
set_option maxHeartbeats 800000 in
theorem few_c (s p : Int) (v : Value) (l : List Pr) (w : World) (hv : Spans w v l) : Calls Try.prog 12 #[.agg #[(.int .i64 s), (.int .i64 p), v]] w (Ret w (.bool (fewB p l))) := by
  obtain ⟨⟨pp, cap, rfl, hn, hcap, hp⟩, hl⟩ := hv
  clear hn hp
  cases h1 : decide (l.length ≤ 12)
  · have n1 : ¬ (l.length ≤ 12) := by simpa using h1
    have n2 : ¬ ((l.length : Int) ≤ 12) := by omega
    rw [show fewB p l = false by unfold fewB; rw [h1]; rfl]
    go_enter Try.func12, Try.ntmps12
    go_wp2
    all_goals
      go_ret
      refine ret_bool ?_ (by repeat (first | with_reducible exact Below.refl _ _ | with_reducible assumption | with_reducible refine Below.setCell ?_ (by first | omega | (simp <;> omega)) _ | with_reducible refine balloc ?_ _ | with_reducible refine Below.drew ?_ | with_reducible refine bstep ?_ (by with_reducible assumption)))
      simp <;> omega
  · have n1 : l.length ≤ 12 := by simpa using h1
    have n2 : (l.length : Int) ≤ 12 := by omega
    rw [show fewB p l = decide (p ≤ 60) by unfold fewB; rw [h1]; rfl]
    go_enter Try.func12, Try.ntmps12
    go_wp2
    all_goals
      go_ret
      refine ret_bool ?_ (by repeat (first | with_reducible exact Below.refl _ _ | with_reducible assumption | with_reducible refine Below.setCell ?_ (by first | omega | (simp <;> omega)) _ | with_reducible refine balloc ?_ _ | with_reducible refine Below.drew ?_ | with_reducible refine bstep ?_ (by with_reducible assumption)))
      simp <;> omega

set_option maxHeartbeats 400000 in
theorem rtime_c (n : Int) (w : World) : Calls Try.prog 34 #[(.int .i64 n)] w (Same w (.bool (tmB n))) := by
  go_enter Try.func34, Try.ntmps34
  go_wp2
  all_goals
    go_ret
    refine same_bool ?_
    simp [tmB, btB] <;> omega
set_option maxHeartbeats 400000 in
theorem rneed_c (n : Int) (w : World) : Calls Try.prog 33 #[(.int .i64 n)] w (Same w (.bool (ndB n))) := by
  go_enter Try.func33, Try.ntmps33
  go_wp2
  all_goals
    go_ret
    refine same_bool ?_
    simp [ndB, btB] <;> omega
/-- The chapter's table. -/
def EX : List Pr := [(5, 7), (9, 12), (8, 8)]
theorem row_lit (w : World) (l : List Pr) (c : Array Value) (hc : c = (flatS l).toArray) (t : TypeId) : Row (w.alloc (.cells c t)) w.heap.size 0 l := by
  subst hc
  refine row_of fun j hj => ?_
  rw [Nat.zero_add]
  simp
theorem spans_lit (w : World) (l : List Pr) (c : Array Value) (hc : c = (flatS l).toArray) (t : TypeId) (n : Nat) (hn : l.length = n) (hl : n ≤ 9223372036854775807) : Spans (w.alloc (.cells c t)) (.slice (some ⟨w.heap.size, 0, none⟩) n n) l := by
  subst hn
  exact Spans.mk' (row_lit w l c hc t) (Nat.le_refl _) hl
def TabP (w : World) (e : Ending) (W' : World) : Prop := ∃ v, e = .returned (.agg #[(.int .i64 100), (.int .i64 10), v]) ∧ Spans W' v EX ∧ Below w.heap.size w W'
set_option maxHeartbeats 800000 in
theorem table_c (w : World) : Calls Try.prog 36 #[] w (TabP w) := by
  have hs := spans_lit (w.alloc (.cells #[(.int .i64 100), (.int .i64 10), .slice (some ⟨w.heap.size + 1, 0, none⟩) 3 3] 24)) EX #[(.int .i64 5), (.int .i64 7), (.int .i64 9), (.int .i64 12), (.int .i64 8), (.int .i64 8)] rfl 26 3 rfl (by omega)
  simp only [World.size_alloc] at hs
  have HS := Lib.hid hs
  clear hs
  go_enter Try.func36, Try.ntmps36
  go_wp2
  unfold TabP
  refine bodyPost_ret (v := .agg #[(.int .i64 100), (.int .i64 10), .slice (some ⟨w.heap.size + 1, 0, none⟩) 3 3]) ?_ rfl ?_
  · simp [results, Try.results36, go_sem]
  · exact ⟨_, rfl, HS.out, (by repeat (first | with_reducible exact Below.refl _ _ | with_reducible assumption | with_reducible refine Below.setCell ?_ (by first | omega | (simp <;> omega)) _ | with_reducible refine balloc ?_ _ | with_reducible refine Below.drew ?_ | with_reducible refine bstep ?_ (by with_reducible assumption)))⟩


end Go.Proofs.Ytemogomligbgiaa.Ti
