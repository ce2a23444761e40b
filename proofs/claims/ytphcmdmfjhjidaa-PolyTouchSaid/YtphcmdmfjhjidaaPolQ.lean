/- PolQ: slices.Values, AppendSeq, Collect at places. -/
import Derived.Test.YtphcmdmfjhjidaaPolH
import Derived.Test.YtphcmdmfjhjidaaRows
import Derived.RangeFuncNested
import Derived.RangeFuncBound
import Derived.RangeFuncCalls
import Derived.RangeFuncLeaves
import Derived.Shelf.Abstract
import Derived.Shelf.RegionOpen
import Derived.WalkKit
import Derived.OwnWalkIn
import Derived.TacticsInMore
import Derived.LoopNIn
import Derived.LoopIn
import Derived.Outline
import Derived.IntWalk
import Derived.Lib.Hide
import Derived.BigRegion
import Derived.RangeFuncBox
import Derived.Maps.AppendAt
import Derived.Deep.RegionWith
import Derived.Deep.RegionHeld3
namespace Go.Proofs.Ytphcmdmfjhjidaa.Po
open Go.RowKit Go.Shelf
set_option linter.unusedSimpArgs false
set_option linter.unusedVariables false
attribute [local go_sem] Oper.semAt_some

def encP (x : Pt) : Array Value := #[.agg #[(.int .i64 (x.1)), (.int .i64 (x.2))]]
def flatP (l : List Pt) : List Value := l.flatMap fun p => [(.int .i64 (p.1)), (.int .i64 (p.2))]
theorem flatP_snoc (l : List Pt) (x : Pt) : flatP (l ++ [x]) = flatP l ++ [(.int .i64 (x.1)), (.int .i64 (x.2))] := by simp [flatP]
theorem flatP_length (l : List Pt) : (flatP l).length = l.length * 2 := by
  induction l with
  | nil => rfl
  | cons x l ih => simp only [flatP, List.flatMap_cons, List.length_append, List.length_cons, List.length_nil] at *; omega
theorem flatP_get (l : List Pt) (i : Nat) (hi : i < l.length) : (flatP l)[i * 2]? = some (.int .i64 ((gp l i).1)) ∧ (flatP l)[i * 2 + 1]? = some (.int .i64 ((gp l i).2)) := by
  induction l generalizing i with
  | nil => simp at hi
  | cons x l ih =>
    cases i with
    | zero => simp [flatP, gp]
    | succ i =>
      have h := ih i (by simpa using hi)
      have e : flatP (x :: l) = (.int .i64 (x.1)) :: (.int .i64 (x.2)) :: flatP l := rfl
      rw [e, show (i + 1) * 2 = i * 2 + 1 + 1 by omega, show i * 2 + 1 + 1 + 1 = (i * 2 + 1) + 1 + 1 by omega]
      simpa [gp] using h
theorem upto_gp (l : List Pt) : upto (gp l) l.length = l := by
  apply List.ext_getElem
  · simp [upto]
  · intro i h1 h2
    simp [upto, gp, h2]

set_option maxRecDepth 100000 in
set_option maxHeartbeats 2000000 in
theorem values1_in (n : Nat) (hn : 1 ≤ n) (ll Bs n₀ b off cap : Nat) (l : List Pt) (h200 : l.length ≤ 200) (hb : b < n₀) (J Jx : List Pt → World → Prop)
    (hY : ∀ pre x W, J pre W → pre.length < l.length → YieldAt Fence.wide (n - 1) Try.prog ll (encP x) W fun e W' =>
      (e = .returned (.bool true) ∧ J (pre ++ [x]) W' ∧ Below n₀ W W') ∨ (e = .returned (.bool false) ∧ Jx (pre ++ [x]) W'))
    (W : World) (hBs : W.cell? ⟨Bs, 0, none⟩ = some (.slice (some ⟨b, off, none⟩) l.length cap)) (hn₀ : n₀ ≤ W.heap.size) (hc : Row W b off l) (hJa : ∀ pre A o, J pre A → J pre (A.alloc o)) (h0 : J [] W) :
    CallsIn Fence.wide n Try.prog 85 #[.func (.yield ll) #[] #[], .pointer (some ⟨Bs, 0, none⟩)] W fun e W' => (∃ v, e = .returned v) ∧
      ((∃ ys, ys = l ∧ J ys W') ∨ (∃ pre, pre <+: l ∧ Jx pre W')) := by
  refine callsIn_of_wp Try.func85 rfl trivial ?_ rfl
  simp only [Try.ntmps85, List.size_toArray, List.length_cons, List.length_nil, Nat.reduceAdd, Nat.reduceSub, Array.replicate_succ, Array.replicate_zero, List.push_toArray, List.append_toArray, List.nil_append, List.cons_append]
  gi_wp2
  gi_loopw [7] (fun i wr => ∃ k : Nat, k ≤ l.length ∧ i = .int .i64 k ∧ J (upto (gp l) k) wr ∧ Below n₀ W wr)
    (fun i _ => l.length - (intOf i).toNat)
  case atStart => exact ⟨0, Nat.zero_le _, rfl, h0, Below.refl _ _⟩
  case round =>
    obtain ⟨k, hk, rfl, hJs, hnx⟩ := hrel
    by_cases hlt : k < l.length
    · have hr := hc.below hb hnx
      obtain ⟨c1, c2⟩ := hr k hlt
      obtain ⟨fn, tmps, assign, body, hy, hR⟩ := hY _ (gp l k) (wr.alloc (.cells #[(.int .i64 ((gp l k).1)), (.int .i64 ((gp l k).2))] 28)) (hJa _ _ _ hJs) (by rw [upto_length]; exact hlt)
      dsimp only [encP] at hy
      have HR := Lib.hid hr
      have HC := Lib.hid hc
      clear hr hc
      gi_wp2
      refine hR.mono ?_
      rintro e W3 (⟨rfl, hJ3, hk3⟩ | ⟨rfl, hJx3⟩)
      · gi_wp2
        go_roundw
        case rel => exact ⟨k + 1, by omega, by simp, by rw [upto_succ]; exact hJ3, hnx.trans (((Below.refl _ _).alloc (by have := hnx.size; omega) _).trans hk3)⟩
        case measure => simp [intOf]; omega
      · gi_wp2
        refine bodyPost_ret (results_none rfl _ _ _) rfl ?_
        exact ⟨⟨_, rfl⟩, .inr ⟨upto (gp l) k ++ [gp l k], by rw [← upto_succ]; have h := upto_prefix (gp l) (show k + 1 ≤ l.length by omega); rwa [upto_gp] at h, hJx3⟩⟩
    · obtain rfl : k = l.length := by omega
      gi_wp2
      go_end0
      exact ⟨⟨_, rfl⟩, .inl ⟨_, upto_gp l, hJs⟩⟩

set_option maxHeartbeats 400000 in
theorem values_c (a : Option Addr) (len cap : Nat) (w : World) : Calls Try.prog 76 #[.slice a len cap] w fun e w' => e = .returned (.func (.func 85) #[] #[.pointer (some ⟨w.heap.size, 0, none⟩)]) ∧ w' = w.alloc (.cells #[.slice a len cap] 22) := by
  go_enter Try.func76, Try.ntmps76
  go_wp2
  go_ret
  exact ⟨rfl, rfl⟩

theorem values_stops (n : Nat) (hn : 1 ≤ n) (Bs n₀ b off cap : Nat) (l : List Pt) (h200 : l.length ≤ 200) (hb : b < n₀) (w : World)
    (hBs : w.cell? ⟨Bs, 0, none⟩ = some (.slice (some ⟨b, off, none⟩) l.length cap)) (hn₀ : n₀ ≤ w.heap.size) (hc : Row w b off l) :
    SeqStopsK Fence.wide n Try.prog 85 #[.pointer (some ⟨Bs, 0, none⟩)] encP (Below n₀) (fun ys => ys = l) (fun pre => pre <+: l) l.length w := fun ll J Jx W hW hJ hJx hY h0 =>
  values1_in n hn ll Bs n₀ b off cap l h200 hb J Jx hY W ((hW.cell (p := ⟨Bs, 0, none⟩) (World.block_lt_of_cell? w _ hBs)).trans hBs) (by have := hW.size; omega) (hc.below (by omega) hW)
    (fun pre A o h => hJ pre A _ none h ⟨rfl, rfl, rfl, by simp, fun k hk _ => Below.heap_alloc _ _ _ hk⟩ (fun r e => by cases e)) h0

theorem info_pt : (Try.prog.info? 28).map (fun i => (i.zero, i.size, i.bytes)) = some (some (.agg #[(.int .i64 0), (.int .i64 0)]), 2, 16) := by kernel_rfl
theorem two_new (w : World) (x y : Value) (t : TypeId) : ∀ j u, [x, y][j]? = some u → (w.alloc (.cells #[x, y] t)).cell? ((⟨w.heap.size, 0, none⟩ : Addr).add j) = some u := by
  intro j u h
  match j, h with
  | 0, h => simp at h; subst h; simp [Addr.add]
  | 1, h => simp at h; subst h; simp [Addr.add]

set_option maxRecDepth 100000 in
set_option maxHeartbeats 4000000 in
theorem appendSeq_in (n : Nat) (hn : 6 ≤ n) (Bs b off cap : Nat) (l : List Pt) (h200 : l.length ≤ 200) (h0l : 0 < l.length) (w : World) (hBs : w.cell? ⟨Bs, 0, none⟩ = some (.slice (some ⟨b, off, none⟩) l.length cap)) (hc : Row w b off l) :
    CallsIn Fence.wide n Try.prog 86 #[.slice none 0 0, .func (.func 85) #[] #[.pointer (some ⟨Bs, 0, none⟩)]] w fun e W' => ∃ v, e = .returned v ∧ W'.ownsRow w.heap.size 28 2 v l.length (flatP l) ∧ Below w.heap.size w W' := by
  have h1 : 1 ≤ n := by omega
  have hbl := hc.lt h0l
  have hBl : Bs < w.heap.size := World.block_lt_of_cell? w _ hBs
  obtain ⟨i0, hi, hz0, hz1, hz2⟩ := info_parts info_pt
  refine callsIn_of_wp_marks Try.func86 rfl trivial ?_ rfl
  simp only [Try.ntmps86, List.size_toArray, List.length_cons, List.length_nil, Nat.reduceAdd, Nat.reduceSub, Array.replicate_succ, Array.replicate_zero, List.push_toArray, List.append_toArray, List.nil_append, List.cons_append]
  gi_wp2
  obtain ⟨W0, hW0⟩ : ∃ W0, w.alloc (.cells #[.slice none 0 0] 22) = W0 := ⟨_, rfl⟩
  have bO : Boxed W0 w.heap.size 22 (.slice none 0 0) := by rw [← hW0]; exact Boxed.new w _ _
  have hB0 : Below w.heap.size w W0 := by rw [← hW0]; exact (Below.refl _ w).alloc (Nat.le_refl _) _
  have hsz : W0.heap.size = w.heap.size + 1 := by rw [← hW0]; simp
  rw [hW0]
  clear hW0
  refine wpIn_rangeFunc_ownH rfl h1 (gf := 85) (lb := #[.pointer (some ⟨Bs, 0, none⟩)]) rfl trivial (enters_of Try.func85 (by kernel_rfl) rfl)
    (values_stops (n - 1) (by omega) Bs w.heap.size b off cap l h200 hbl W0 ((hB0.cell (p := ⟨Bs, 0, none⟩) hBl).trans hBs) (by omega) (hc.below hbl hB0)) belowK_t (belowK_b (by omega)) (Below.refl _ _) (fun _ => rfl)
    (fun pre W => (∃ v, Boxed W w.heap.size 22 v ∧ W.ownsRow w.heap.size 28 2 v pre.length (flatP pre) ∧ True) ∧ Below w.heap.size w W)
    (fun _ _ _ => False)
    (OwnFrom.and (Own.from (holdsRow_own w.heap.size w.heap.size 22 28 2 (fun pre => pre.length) (fun pre => flatP pre) (fun _ _ => True)) _) (ownFrom_below (Nat.le_refl _) (by omega)))
    (fun _ _ _ _ _ hs _ _ => hs)
    ⟨⟨_, bO, World.ownsRow_nil _ _ _ _, trivial⟩, hB0⟩
    (fun x a' W => ∃ Bx, Box2 W Bx 28 x ∧ a' = { tmps := #[.slice none 0 0, .func (.func 85) #[] #[.pointer (some ⟨Bs, 0, none⟩)], .pointer (some ⟨w.heap.size, 0, none⟩), undef, .slice none 0 0, .pointer (some ⟨Bx, 0, none⟩), .func (.func 85) #[] #[.pointer (some ⟨Bs, 0, none⟩)], .agg #[(.int .i64 (x.1)), (.int .i64 (x.2))], undef, undef, undef, undef, undef], defers := [] })
    (fun x a' _ X Y row hs hg hr => by
      obtain ⟨Bx, e1, e3⟩ := hs
      exact ⟨Bx, box2_own Bx _ (fun (_ : Unit) => x) () X Y row e1 hg (fun r e => (hr r e).2), e3⟩)
    ?assign ?body ?done ?stop
  case assign =>
    rintro ll pre x W K ⟨⟨v, bV, hrow, -⟩, hB1⟩ hK
    have hs1 := hB1.size
    unfold encP
    gi_wp2
    exact hK _ _ ((KeepsOthers.alloc _ _).from _) ((Below.refl _ W).alloc hB1.size _) ⟨⟨v, bV.alloc _, hrow.alloc _, trivial⟩, hB1.alloc hB1.size _⟩ ⟨W.heap.size, Box2.new W _ x, rfl⟩
  case body =>
    rintro ll pre ⟨x1, x2⟩ a' W hll ⟨r, hr⟩ ⟨⟨v, hv, hrow, -⟩, hB⟩ ⟨Bx, bx, rfl⟩ hlt
    have hc := hv.cell
    have k0 := bx.c0
    have k1 := bx.c1
    dsimp only at k0 k1
    gi_wp2_with (gi_at_builtin; refine wpListIn_append_own _ rfl _ _ 22 rfl w.heap.size 28 i0 (.agg #[(.int .i64 0), (.int .i64 0)]) 2 16 Try.underlying22 hi hz0 hz1 hz2 rfl (by decide) _ _ _ rfl (hrow.alloc _) ⟨W.heap.size, 0, none⟩ 1 1 [(.int .i64 x1), (.int .i64 x2)] rfl rfl (two_new _ _ _ _) (by simp [Value.oneCell']) (by unfold maxLen; omega) (by omega) (by have := hB.size; simp; omega) ?_; intro v' w1 hown' hgrow _; obtain ⟨g', cap', rfl⟩ := ownsRow_succ hown'; obtain ⟨hv1, hv2, hr2, hk2, hb2⟩ := hv.appended (by decide) hrow hB.size (Nat.le_refl _) hown' hgrow; have hc1 := hv1.cell; have hf1 := hv1.frozen)
    exact ⟨hk2.from _, hb2, ⟨_, hv2, by rw [flatP_snoc, List.length_append]; exact hr2⟩, hB.trans hb2⟩
  case done =>
    rintro D ys W hD rfl ⟨⟨v, hv, hrow, -⟩, hB⟩ hK
    have hc := hv.cell
    gi_wp2
    refine ⟨by simp, .inl ⟨_, _, rfl, run_takeDeferred hK, ?_⟩⟩
    exact ⟨_, results_tmp rfl _ _ _, v, rfl, ownsRow_putObj hrow _ hK rfl, hB.trans (belowK_b (w := w) (Nat.le_refl _) W D _ _ (by omega) hK rfl rfl)⟩
  case stop =>
    rintro D c pre W _ _ h _
    exact h.elim

def OwnPost (w : World) (l : List Pt) (e : Ending) (W' : World) : Prop := ∃ v, e = .returned v ∧ W'.ownsRow w.heap.size 28 2 v l.length (flatP l) ∧ Below w.heap.size w W'
set_option maxHeartbeats 800000 in
theorem collect_c (Bs b off cap : Nat) (l : List Pt) (h200 : l.length ≤ 200) (h0l : 0 < l.length) (w : World) (hBs : w.cell? ⟨Bs, 0, none⟩ = some (.slice (some ⟨b, off, none⟩) l.length cap)) (hc : Row w b off l) :
    Calls Try.prog 83 #[.func (.func 85) #[] #[.pointer (some ⟨Bs, 0, none⟩)]] w (OwnPost w l) := by
  go_enter Try.func83, Try.ntmps83
  go_wp2_with fail
  refine Calls.mono (callsIn_wide.1 (appendSeq_in 6 (Nat.le_refl _) Bs b off cap l h200 h0l _ hBs hc)) ?_
  rintro e w1 ⟨v, rfl, hown, hb⟩
  have HO := Lib.hid hown
  clear hown
  go_wp2
  go_ret
  exact ⟨v, rfl, HO.out, hb⟩

end Go.Proofs.Ytphcmdmfjhjidaa.Po
