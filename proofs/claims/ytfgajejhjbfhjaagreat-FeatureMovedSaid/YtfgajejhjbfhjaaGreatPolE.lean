/- PolE: the edges of a polygon, ranged over: the iterator's contract. -/
import Derived.Test.YtfgajejhjbfhjaaGreatPolM
import Derived.Test.YtfgajejhjbfhjaaGreatOrdIn
import Derived.Test.YtfgajejhjbfhjaaGreatRows
import Derived.RangeFuncNested
import Derived.RangeFuncBound
import Derived.RangeFuncCalls
import Derived.RangeFuncLeaves
import Derived.Shelf.Abstract
import Derived.Shelf.RegionOpen
import Derived.WalkKit
import Derived.OwnWalkIn
import Derived.TacticsInMore
import Derived.LoopNIn
import Derived.LoopIn
import Derived.Outline
import Derived.IntWalk
import Derived.Lib.Hide
import Derived.StillTailTactics
namespace Go.Proofs.YtfgajejhjbfhjaaGreat.Po
open Go.RowKit Go.Shelf
set_option linter.unusedSimpArgs false
set_option linter.unusedVariables false
attribute [local go_sem] Oper.semAt_some

def pe (p : Pt) : Value := .agg #[(.int .i64 (p.1)), (.int .i64 (p.2))]
def encE (x : Ed) : Array Value := #[.agg #[(.int .i64 (x.1.1.1)), (.int .i64 (x.1.1.2))], .agg #[(.int .i64 (x.1.2.1)), (.int .i64 (x.1.2.2))]]

theorem yres_of {A B : World → Prop} {e : Ending} {W : World} (h : (e = .returned (.bool true) ∧ A W) ∨ (e = .returned (.bool false) ∧ B W)) : ∃ b : Bool, e = .returned (.bool b) ∧ Hid ((b = true → A W) ∧ (b = false → B W)) := by
  rcases h with ⟨he, ha⟩ | ⟨he, hb⟩
  · exact ⟨true, he, fun _ => ha, fun h => (by cases h)⟩
  · exact ⟨false, he, fun h => (by cases h), fun _ => hb⟩

set_option maxRecDepth 100000 in
set_option maxHeartbeats 1000000 in
theorem edges1_in (n : Nat) (hn : 1 ≤ n) (ll Bs n₀ b off cap : Nat) (l : List Pt) (hl : okL l = true) (h24 : l.length ≤ 24) (h0l : 0 < l.length) (hb : b < n₀) (M : List Nat) (hbM : b ∉ M) (hBM : Bs ∉ M) (J Jx : List Ed → World → Prop)
    (hY : ∀ pre x W, J pre W → pre.length < l.length → YieldAt Fence.wide (n - 1) Tryz.prog ll (encE x) W fun e W' =>
      (e = .returned (.bool true) ∧ J (pre ++ [x]) W' ∧ But M n₀ W W') ∨ (e = .returned (.bool false) ∧ Jx (pre ++ [x]) W'))
    (W : World) (hBs : W.cell? ⟨Bs, 0, none⟩ = some (.slice (some ⟨b, off, none⟩) l.length cap)) (hBl : Bs < n₀) (hn₀ : n₀ ≤ W.heap.size) (hc : Row W b off l) (hJa : ∀ pre A o, J pre A → J pre (A.alloc o).drew) (h0 : J [] W) :
    CallsIn Fence.wide n Tryz.prog 180 #[.func (.yield ll) #[] #[], .pointer (some ⟨Bs, 0, none⟩)] W fun e W' => (∃ v, e = .returned v) ∧
      ((∃ ys, ys = eds l hl ∧ J ys W') ∨ (∃ pre, pre <+: eds l hl ∧ Jx pre W')) := by
  refine callsIn_of_wp Tryz.func180 rfl trivial ?_ rfl
  simp only [Tryz.ntmps180, List.size_toArray, List.length_cons, List.length_nil, Nat.reduceAdd, Nat.reduceSub, Array.replicate_succ, Array.replicate_zero, List.push_toArray, List.append_toArray, List.nil_append, List.cons_append]
  gi_wp2
  gi_loopw [7] (fun i wr => ∃ k : Nat, k ≤ l.length ∧ i = .int .i64 k ∧ J (upto (edf l hl) k) wr ∧ But M n₀ W wr ∧ W.heap.size ≤ wr.heap.size)
    (fun i _ => l.length - (intOf i).toNat)
  case atStart => exact ⟨0, Nat.zero_le _, rfl, h0, But.refl _ _ _, Nat.le_refl _⟩
  case round =>
    obtain ⟨k, hk, rfl, hJs, hnx, hsz⟩ := hrel
    by_cases hlt : k < l.length
    · have hr := hnx.row hb hbM hc
      obtain ⟨c1, c2⟩ := hr k hlt
      have hm : (k + 1) % l.length < l.length := Nat.mod_lt _ h0l
      obtain ⟨d1, d2⟩ := hr ((k + 1) % l.length) hm
      have hwb : wr.cell? ⟨Bs, 0, none⟩ = some (.slice (some ⟨b, off, none⟩) l.length cap) := (hnx.cell (p := ⟨Bs, 0, none⟩) hBl hBM).trans hBs
      have hmx : Tryz.prog.follows .mixedOrders = true := by kernel_rfl
      obtain ⟨fn, tmps, assign, body, hy, hR⟩ := hY _ (edf l hl k) (wr.alloc (.cells #[(.int .i64 ((gp l k).1)), (.int .i64 ((gp l k).2))] 23)).drew (hJa _ _ _ hJs) (by rw [upto_length]; exact hlt)
      dsimp only [encE, edf, nx] at hy
      replace hR := hR.mono (R' := fun e W' => ∃ b : Bool, e = .returned (.bool b) ∧ Hid ((b = true → J (upto (edf l hl) k ++ [edf l hl k]) W' ∧ But M n₀ (wr.alloc (.cells #[(.int .i64 ((gp l k).1)), (.int .i64 ((gp l k).2))] 23)).drew W') ∧ (b = false → Jx (upto (edf l hl) k ++ [edf l hl k]) W'))) (fun e W' h => yres_of (A := fun W' => J (upto (edf l hl) k ++ [edf l hl k]) W' ∧ But M n₀ (wr.alloc (.cells #[(.int .i64 ((gp l k).1)), (.int .i64 ((gp l k).2))] 23)).drew W') (B := fun W' => Jx (upto (edf l hl) k ++ [edf l hl k]) W') h)
      have w1 : IntKind.i64.wrap ((k : Int) + 1) = (k : Int) + 1 := IntWalk.i64_in _ (by omega)
      have w2 : Int.tmod ((k : Int) + 1) (l.length : Int) = (((k + 1) % l.length : Nat) : Int) := by
        rw [Int.tmod_eq_emod_of_nonneg (by omega)]; simp
      generalize hj : (k + 1) % l.length = j at *
      have hj' := Lib.hid hj
      clear hj
      have q1 := cell_al (.cells #[(.int .i64 ((gp l k).1)), (.int .i64 ((gp l k).2))] 23) hwb
      have q2 := cell_al (.cells #[(.int .i64 ((gp l k).1)), (.int .i64 ((gp l k).2))] 23) d1
      have q3 := cell_al (.cells #[(.int .i64 ((gp l k).1)), (.int .i64 ((gp l k).2))] 23) d2
      have z0 : (l.length == 0) = false := by rw [beq_eq_false_iff_ne]; omega
      have z2 : l ≠ [] := by intro e; subst e; simp at h0l
      have z1 : ((l.length : Int) == 0) = false := by rw [beq_eq_false_iff_ne]; omega
      gi_wp2
      gi_region_with_o (((with_reducible refine hR.mono ?_); rintro e W3 ⟨bb, rfl, hres⟩))
      all_goals
        cases bb
        · gi_wp2
          refine bodyPost_ret (results_none rfl _ _ _) rfl ?_
          exact ⟨⟨_, rfl⟩, .inr ⟨upto (edf l hl) k ++ [edf l hl k], by rw [← upto_succ]; exact upto_prefix _ (by omega), hres.out.2 (by simp)⟩⟩
        · gi_wp2
          go_roundw
          case rel => exact ⟨k + 1, by omega, by simp, by rw [upto_succ]; exact (hres.out.1 (by simp)).1, hnx.trans ((But.of_below ((((Below.refl n₀ _).alloc (by have := hnx.size; omega) _).drew)) (Nat.le_refl _)).trans (hres.out.1 (by simp)).2), by have := (hres.out.1 (by simp)).2.size; simp at this; omega⟩
          case measure => simp [intOf]; omega
    · obtain rfl : k = l.length := by omega
      gi_wp2
      go_end0
      exact ⟨⟨_, rfl⟩, .inl ⟨_, rfl, hJs⟩⟩

set_option maxHeartbeats 1000000 in
/-- p.edges(): the polygon is boxed, the function value captures the box. -/
theorem edges_in (n : Nat) (a : Option Addr) (len cap : Nat) (w : World) :
    CallsIn Fence.wide n Tryz.prog 170 #[.slice a len cap] w fun e w' => e = .returned (.func (.func 180) #[] #[.pointer (some ⟨w.heap.size, 0, none⟩)]) ∧ w' = w.alloc (.cells #[.slice a len cap] 158) := by
  refine callsIn_of_wp Tryz.func170 rfl trivial ?_ rfl
  simp only [Tryz.ntmps170, List.size_toArray, List.length_cons, List.length_nil, Nat.reduceAdd, Nat.reduceSub, Array.replicate_succ, Array.replicate_zero, List.push_toArray, List.append_toArray, List.nil_append, List.cons_append]
  gi_wp2
  go_ret
  exact ⟨rfl, rfl⟩

/-- The edges, as an iterator. -/
theorem edges_stops (n : Nat) (hn : 1 ≤ n) (Bs n₀ b off cap : Nat) (l : List Pt) (hl : okL l = true) (h24 : l.length ≤ 24) (h0l : 0 < l.length) (hb : b < n₀) (M : List Nat) (hbM : b ∉ M) (hBM : Bs ∉ M) (w : World)
    (hBs : w.cell? ⟨Bs, 0, none⟩ = some (.slice (some ⟨b, off, none⟩) l.length cap)) (hBl : Bs < n₀) (hn₀ : n₀ ≤ w.heap.size) (hc : Row w b off l) :
    SeqStopsK Fence.wide n Tryz.prog 180 #[.pointer (some ⟨Bs, 0, none⟩)] encE (But M n₀) (fun ys => ys = eds l hl) (fun pre => pre <+: eds l hl) l.length w := fun ll J Jx W hW hJ hJx hY h0 =>
  edges1_in n hn ll Bs n₀ b off cap l hl h24 h0l hb M hbM hBM J Jx hY W ((hW.cell (p := ⟨Bs, 0, none⟩) (show Bs < w.heap.size by omega)).trans hBs) hBl (by have := hW.size; omega) (hc.below (by omega) hW)
    (fun pre A o h => hJ pre A _ none h ⟨rfl, rfl, rfl, by simp, fun k hk _ => Below.heap_alloc _ _ _ hk⟩ (fun r e => by cases e)) h0

end Go.Proofs.YtfgajejhjbfhjaaGreat.Po
