/- TidW: the examples of the chapter. -/
import Derived.Test.YtemogomligbgiaaTidV
import Derived.Test.YtemogomligbgiaaRows
import Derived.WalkKit
import Derived.WalkSpells
import Derived.WalkLawsBesides
import Derived.Lib.Hide
import Derived.Deep.QuietTactic
import Derived.BigQuiet
import Derived.RegionTactic
import Derived.ChangeAlike
import Derived.BigRegion
import Derived.Deep.RegionHeld3
import Derived.Deep.RegionWith
import Derived.Outline
import Derived.IntWalk
import Derived.Deep.DeepCutAuto
import Derived.LoopTactic
namespace Go.Proofs.Ytemogomligbgiaa.Ti
open Go.RowKit Sp
set_option linter.unusedSimpArgs false
set_option linter.unusedVariables false

set_option maxRecDepth 100000
theorem HA (w : World) (v : Value) (h : Spans w v EX) : Calls Try.prog 15 #[.agg #[(.int .i64 100), (.int .i64 10), v], (.int .i64 100), (.int .i64 100)] w (Ret w (.tuple #[.agg #[(.int .i64 5), (.int .i64 7)], (.int .i64 0)])) := by
  have := Height_c 100 10 v EX 100 100 w h
  rw [show hV 100 10 EX 100 100 = (5, 7) by decide +kernel, show hE 100 10 EX 100 100 = 0 by decide +kernel] at this
  exact this
theorem HB (w : World) (v : Value) (h : Spans w v EX) : Calls Try.prog 15 #[.agg #[(.int .i64 100), (.int .i64 10), v], (.int .i64 101), (.int .i64 101)] w (Ret w (.tuple #[.agg #[(.int .i64 5), (.int .i64 12)], (.int .i64 0)])) := by
  have := Height_c 100 10 v EX 101 101 w h
  rw [show hV 100 10 EX 101 101 = (5, 12) by decide +kernel, show hE 100 10 EX 101 101 = 0 by decide +kernel] at this
  exact this
theorem HC (w : World) (v : Value) (h : Spans w v EX) : Calls Try.prog 15 #[.agg #[(.int .i64 100), (.int .i64 10), v], (.int .i64 100), (.int .i64 120)] w (Ret w (.tuple #[.agg #[(.int .i64 5), (.int .i64 12)], (.int .i64 0)])) := by
  have := Height_c 100 10 v EX 100 120 w h
  rw [show hV 100 10 EX 100 120 = (5, 12) by decide +kernel, show hE 100 10 EX 100 120 = 0 by decide +kernel] at this
  exact this
theorem WA (w : World) (v : Value) (h : Spans w v EX) : Calls Try.prog 17 #[.agg #[(.int .i64 100), (.int .i64 10), v], (.int .i64 8)] w (fun e W' => ∃ u, e = .returned (.tuple #[u, (.int .i64 0)]) ∧ Spans W' u [(110, 120)] ∧ Below w.heap.size w W') := by
  have := Windows_c 100 10 v EX 8 w h
  unfold WinP at this
  rw [show wL 100 10 EX 8 = [(110, 120)] by decide +kernel, show wE 100 10 EX 8 = 0 by decide +kernel] at this
  exact this
theorem WB (w : World) (v : Value) (h : Spans w v EX) : Calls Try.prog 17 #[.agg #[(.int .i64 100), (.int .i64 10), v], (.int .i64 9)] w (fun e W' => ∃ u, e = .returned (.tuple #[u, (.int .i64 0)]) ∧ Spans W' u [(110, 110)] ∧ Below w.heap.size w W') := by
  have := Windows_c 100 10 v EX 9 w h
  unfold WinP at this
  rw [show wL 100 10 EX 9 = [(110, 110)] by decide +kernel, show wE 100 10 EX 9 = 0 by decide +kernel] at this
  exact this
theorem WC (w : World) (v : Value) (h : Spans w v EX) : Calls Try.prog 17 #[.agg #[(.int .i64 100), (.int .i64 10), v], (.int .i64 6)] w (fun e W' => ∃ u, e = .returned (.tuple #[u, (.int .i64 0)]) ∧ Spans W' u [(110, 120)] ∧ Below w.heap.size w W') := by
  have := Windows_c 100 10 v EX 6 w h
  unfold WinP at this
  rw [show wL 100 10 EX 6 = [(110, 120)] by decide +kernel, show wE 100 10 EX 6 = 0 by decide +kernel] at this
  exact this
theorem NA (w : World) (v : Value) (h : Spans w v EX) : Calls Try.prog 20 #[.agg #[(.int .i64 100), (.int .i64 10), v], (.int .i64 8), (.int .i64 100), (.int .i64 10)] w (Ret w (.tuple #[(.int .i64 110), (.int .i64 0)])) := by
  have := Next_c 100 10 v EX 8 100 10 w h
  rw [show nV 100 10 EX 8 100 10 = 110 by decide +kernel, show nE 100 10 EX 8 100 10 = 0 by decide +kernel] at this
  exact this
theorem NB (w : World) (v : Value) (h : Spans w v EX) : Calls Try.prog 20 #[.agg #[(.int .i64 100), (.int .i64 10), v], (.int .i64 8), (.int .i64 100), (.int .i64 11)] w (Ret w (.tuple #[(.int .i64 0), (.int .i64 4)])) := by
  have := Next_c 100 10 v EX 8 100 11 w h
  rw [show nV 100 10 EX 8 100 11 = 0 by decide +kernel, show nE 100 10 EX 8 100 11 = 4 by decide +kernel] at this
  exact this
theorem MA (w : World) (v : Value) (v2 : Value) (h2 : Spans w v2 [(6, 9), (12, 13), (0, 8)]) (h : Spans w v EX) : Calls Try.prog 22 #[.agg #[(.int .i64 100), (.int .i64 10), v], .agg #[(.int .i64 100), (.int .i64 10), v2]] w (fun e W' => ∃ p c, e = .returned (.tuple #[.agg #[(.int .i64 100), (.int .i64 10), .slice p 3 c], (.int .i64 0)]) ∧ Spans W' (.slice p 3 c) [(6, 7), (12, 12), (8, 8)] ∧ Below w.heap.size w W') := by
  refine (Meet_c 100 10 v EX 100 10 v2 [(6, 9), (12, 13), (0, 8)] w h h2).mono ?_
  rintro e W' ⟨v', rfl, hs, hf, hb⟩
  rw [show mL EX [(6, 9), (12, 13), (0, 8)] = [(6, 7), (12, 12), (8, 8)] by decide +kernel] at hs
  have e1 : tErr (tOk 100 10 EX 100 10 [(6, 9), (12, 13), (0, 8)]) (tAl 100 10 EX 100 10 [(6, 9), (12, 13), (0, 8)]) (mG EX [(6, 9), (12, 13), (0, 8)]) 18 = 0 := by decide +kernel
  have e2 : (tOk 100 10 EX 100 10 [(6, 9), (12, 13), (0, 8)] && (tAl 100 10 EX 100 10 [(6, 9), (12, 13), (0, 8)] && mG EX [(6, 9), (12, 13), (0, 8)])) = true := by decide +kernel
  rw [e1, e2]
  rw [e2] at hs
  obtain ⟨⟨p, c, rfl, _, _, _⟩, _⟩ := id hs
  exact ⟨p, c, rfl, hs, hb⟩
theorem SA (w : World) (v : Value)  (h : Spans w v EX) : Calls Try.prog 27 #[.agg #[(.int .i64 100), (.int .i64 10), v], .agg #[(.int .i64 (-1)), (.int .i64 1)]] w (fun e W' => ∃ p c, e = .returned (.tuple #[.agg #[(.int .i64 100), (.int .i64 10), .slice p 3 c], (.int .i64 0)]) ∧ Spans W' (.slice p 3 c) [(4, 8), (8, 13), (7, 9)] ∧ Below w.heap.size w W') := by
  refine (Shift_c 100 10 v EX (-1) 1 w h).mono ?_
  rintro e W' ⟨v', rfl, hs, hf, hb⟩
  rw [show sL EX (-1, 1) = [(4, 8), (8, 13), (7, 9)] by decide +kernel] at hs
  have e1 : erv (sOk 100 10 EX (-1, 1)) (sG EX (-1, 1)) 3 = 0 := by decide +kernel
  have e2 : (sOk 100 10 EX (-1, 1) && sG EX (-1, 1)) = true := by decide +kernel
  rw [e1, e2]
  rw [e2] at hs
  obtain ⟨⟨p, c, rfl, _, _, _⟩, _⟩ := id hs
  exact ⟨p, c, rfl, hs, hb⟩
theorem VT (w : World) (v : Value) (h : Spans w v EX) : Calls Try.prog 14 #[.agg #[(.int .i64 100), (.int .i64 10), v]] w (Ret w (.bool true)) := by
  have := valid_c 100 10 v EX w h
  rwa [show vaT 100 10 EX = true by decide +kernel] at this
theorem VZ (w : World) : Calls Try.prog 14 #[.agg #[(.int .i64 0), (.int .i64 0), .slice none 0 0]] w (Ret w (.bool false)) := by
  have := valid_c 0 0 (.slice none 0 0) [] w (Spans.nil w)
  rwa [show vaT 0 0 [] = false by decide +kernel] at this
theorem spans_lit2 (w : World) (o : Obj) (l : List Pr) (c : Array Value) (hc : c = (flatS l).toArray) (t : TypeId) (n : Nat) (hn : l.length = n) (hl : n ≤ 9223372036854775807) : Spans ((w.alloc o).alloc (.cells c t)) (.slice (some ⟨w.heap.size + 1, 0, none⟩) n n) l := by
  have := spans_lit (w.alloc o) l c hc t n hn hl
  simpa only [World.size_alloc] using this
theorem SQ (va vb : Value) (a : List Pr) (w : World) (ha : Spans w va a) (hb : Spans w vb a) : Calls Try.prog 19 #[va, vb] w (Ret w (.bool true)) := by
  have := spans_c va vb a a w ha hb
  rwa [show eqB a a = true by unfold eqB; simp] at this


end Go.Proofs.Ytemogomligbgiaa.Ti
