/- TidD: the stretches, ranged over. -/
import Derived.Test.YtemogomligbgiaaTidC
import Derived.Test.YtemogomligbgiaaTidO
import Derived.RangeFuncNested
import Derived.LoopTactic
import Derived.Deep.DeepCutAuto
import Derived.Deep.QuietTactic
import Derived.RangeFuncBound
import Derived.RangeFuncCalls
import Derived.RangeFuncLeaves
import Derived.Shelf.Abstract
import Derived.Shelf.RegionOpen
import Derived.WalkKit
import Derived.OwnWalkIn
import Derived.TacticsInMore
import Derived.LoopNIn
import Derived.LoopIn
import Derived.Outline
import Derived.IntWalk
import Derived.Lib.Hide
import Derived.StillTailTactics
import Derived.BigRegion
import Derived.Deep.RegionWith
import Derived.RangeFuncBox
import Derived.Maps.AppendAt
namespace Go.Proofs.Ytemogomligbgiaa.Ti
open Go.RowKit Go.Shelf Sp
set_option linter.unusedSimpArgs false
set_option linter.unusedVariables false

attribute [local go_sem] Oper.semAt_some
set_option maxRecDepth 100000 in
set_option maxHeartbeats 8000000 in
theorem stretches1_in (n : Nat) (hn : 1 ≤ n) (ll Bs n₀ b off cap : Nat) (s p : Int) (l : List Pr) (hv : vaT s p l = true) (hb : b < n₀) (M : List Nat) (hM : ∀ m ∈ M, m < n₀) (hbM : b ∉ M) (hBM : Bs ∉ M) (J Jx : List Se → World → Prop)
    (hY : ∀ pre x W, J pre W → pre.length < 2 * l.length → YieldAt Fence.wide (n - 1) Try.prog ll (encS x) W fun e W' =>
      (e = .returned (.bool true) ∧ J (pre ++ [x]) W' ∧ Kp M n₀ W W') ∨ (e = .returned (.bool false) ∧ Jx (pre ++ [x]) W'))
    (W : World) (hB0 : W.cell? ⟨Bs, 0, none⟩ = some (.int .i64 s)) (hB1 : W.cell? ⟨Bs, 1, none⟩ = some (.int .i64 p)) (hB2 : W.cell? ⟨Bs, 2, none⟩ = some (.slice (some ⟨b, off, none⟩) l.length cap)) (hBl : Bs < n₀) (hn₀ : n₀ ≤ W.heap.size) (hc : Row W b off l) (hJa : ∀ pre A B, J pre A → Below A.heap.size A B → J pre B) (h0 : J [] W) :
    CallsIn Fence.wide n Try.prog 71 #[.func (.yield ll) #[] #[], .pointer (some ⟨Bs, 0, none⟩)] W fun e W' => (∃ v, e = .returned v) ∧
      ((∃ ys, ys = strS s p l l.length ∧ J ys W') ∨ (∃ pre, pre <+: strS s p l l.length ∧ Jx pre W')) := by
  obtain ⟨⟨vs1, vs2⟩, ⟨vp1, vp2⟩, ⟨vn1, vn2⟩, _, vall⟩ := vaT_iff.1 hv
  refine callsIn_of_wp Try.func71 rfl trivial ?_ rfl
  simp only [Try.ntmps71, List.size_toArray, List.length_cons, List.length_nil, Nat.reduceAdd, Nat.reduceSub, Array.replicate_succ, Array.replicate_zero, List.push_toArray, List.append_toArray, List.nil_append, List.cons_append]
  gi_wp2_with fail
  gi_loopw [10] (fun i wr => ∃ k : Nat, k ≤ l.length ∧ i = .int .i64 k ∧ J (strS s p l k) wr ∧ Kp M n₀ W wr)
    (fun i _ => l.length - (intOf i).toNat)
  case atStart => exact ⟨0, Nat.zero_le _, rfl, h0, Kp.refl _ _ _⟩
  case round =>
    obtain ⟨k, hk, rfl, hJs, hnx⟩ := hrel
    by_cases hlt : k < l.length
    · have hr := hnx.but.row hb hbM hc
      have hws := hnx.but.size
      have c0 := (hnx.but.cell (p := ⟨Bs, 0, none⟩) hBl hBM).trans hB0
      have c1 := (hnx.but.cell (p := ⟨Bs, 1, none⟩) hBl hBM).trans hB1
      have c2 := (hnx.but.cell (p := ⟨Bs, 2, none⟩) hBl hBM).trans hB2
      have hBw : Bs < wr.heap.size := by omega
      have hbw : b < wr.heap.size := by omega
      have hokp := str_okX (s := s) (p := p) hv (n := k + 1) (by omega) (stK_mem.2 (.inl ⟨k, by omega, rfl⟩))
      have HN := Lib.hid hnx
      have HJ := Lib.hid hJs
      have HR := Lib.hid hr
      have HOK := Lib.hid hokp
      have HVP := Lib.hid (show ∀ W', Below wr.heap.size wr W' → Row W' b off l from fun W' h => hr.below hbw h)
      clear hnx hJs hr hokp
      gi_wp2_with fail
      refine ⟨trivial, ?_⟩
      refine (callsIn_wide.2 (time_c s p k _ _ (by omega) (by omega) (by omega))).mono ?_
      rintro e W1 ⟨rfl, hb1⟩
      have d0 : W1.cell? ⟨Bs, 0, none⟩ = some (.int .i64 s) := (hb1.cell (p := ⟨Bs, 0, none⟩) hBw).trans c0
      have d1 : W1.cell? ⟨Bs, 1, none⟩ = some (.int .i64 p) := (hb1.cell (p := ⟨Bs, 1, none⟩) hBw).trans c1
      have d2 : W1.cell? ⟨Bs, 2, none⟩ = some (.slice (some ⟨b, off, none⟩) l.length cap) := (hb1.cell (p := ⟨Bs, 2, none⟩) hBw).trans c2
      have hs1 := hb1.size
      have hJ1 := Lib.hid (hJa _ _ _ HJ.out hb1)
      have hK1 := Lib.hid (HN.out.trans (Kp.below hb1 (by omega)))
      have RR0 := Lib.hid (show ∀ W', Below W1.heap.size W1 W' → Row W' b off l from fun W' h => HVP.out W' (hb1.trans (h.mono hs1)))
      clear hb1 HN HJ c0 c1 c2
      by_cases hk0 : 0 < k
      · by_cases hp1 : 1 < p
        · obtain ⟨j, rfl⟩ : ∃ j, k = j + 1 := ⟨k - 1, by omega⟩
          have hokm := str_okX (s := s) (p := p) hv (n := j + 1 + 1) (by omega) (stK_mem.2 (.inr ⟨hp1, j + 1, by omega, by omega, rfl⟩))
          have ha1 := all_gt' vall j
          have ha2 := all_gt' vall (j + 1)
          have HSM := Lib.hid (strS_mid (s := s) (p := p) (l := l) hk0 hp1)
          have RR := RR0.out
          have HX1 : Hid (IntKind.i64.wrap (j : Int) = (j : Int)) := Lib.hid (IntWalk.i64_in _ (by omega))
          have zB : Bs < W1.heap.size := by omega
          have hX : Below W1.heap.size W1 W1.drew := (Below.refl _ _).drew
          have q0 := d0
          have q1 := d1
          have q2 := d2
          obtain ⟨mm, hmm⟩ : ∃ mm, jn (gt l j) (gt l (j + 1)) = mm := ⟨_, rfl⟩
          obtain ⟨m1, m2⟩ := mm
          have JC : ∀ w, Calls Try.prog 52 #[.agg #[(.int .i64 ((gt l j).1)), (.int .i64 ((gt l j).2))], .agg #[(.int .i64 ((gt l (j + 1)).1)), (.int .i64 ((gt l (j + 1)).2))]] w (Ret w (.tuple #[.agg #[(.int .i64 m1), (.int .i64 m2)], (.int .i64 0)])) := fun w => by
            have e1 := congrArg Prod.fst hmm
            have e2 := congrArg Prod.snd hmm
            simp only [jn] at e1 e2
            have := join_c (gt l j).1 (gt l j).2 (gt l (j + 1)).1 (gt l (j + 1)).2 w ha1 ha2
            rwa [e1, e2] at this
          have HMM := Lib.hid hmm
          have HOM := Lib.hid hokm
          clear hmm hokm ha1 ha2
          gi_wp2_with fail
          refine wpIn_mono (Q := fun e2 a2 W2 => e2 = .normal ∧ ∃ (g : Nat) (x23 x24 x25 x26 x27 x28 x29 x30 x31 x32 x33 : Value), W1.heap.size ≤ g ∧ a2 = { tmps := #[.func (.yield ll) #[] #[], .pointer (some ⟨Bs, 0, none⟩), undef, (.int .i64 (((j + 1 : Nat) : Int))), (.int .i64 (s + (((j + 1 : Nat) : Int)) * p)), .pointer (some ⟨g, 0, none⟩), (.int .i64 0), .pointer (some ⟨Bs, 2, none⟩), .slice (some ⟨b, off, none⟩) l.length cap, (.int .i64 (l.length)), (.int .i64 (((j + 1 : Nat) : Int))), (.bool true), (.int .i64 (((j + 1 : Nat) : Int))), .agg #[(.int .i64 s), (.int .i64 p), .slice (some ⟨b, off, none⟩) l.length cap], (.int .i64 (((j + 1 : Nat) : Int))), (.int .i64 (s + (((j + 1 : Nat) : Int)) * p)), (.int .i64 (((j + 1 : Nat) : Int))), (.bool true), (.bool true), .pointer (some ⟨Bs, 1, none⟩), (.int .i64 p), (.bool true), (.bool true), x23, x24, x25, x26, x27, x28, x29, x30, x31, x32, x33, u34, u35, u36, u37, u38, u39, u40, u41, u42, u43, u44, u45, u46, u47, u48, u49, u50, u51, u52, u53, u54, u55], defers := [] } ∧ Typ W2 g ∧ W2.cell? ⟨g, 0, none⟩ = some (.int .i64 m1) ∧ W2.cell? ⟨g, 1, none⟩ = some (.int .i64 m2) ∧ Below W1.heap.size W1 W2) ?region (fun e2 a2 W2 h => ?rest)
          case region =>
            refine wpIn_wide.2 ?_
            refine wp_region_held_drew (S := fun w' => w'.cell? ⟨Bs, 0, none⟩ = some (.int .i64 s) ∧ w'.cell? ⟨Bs, 1, none⟩ = some (.int .i64 p) ∧ w'.cell? ⟨Bs, 2, none⟩ = some (.slice (some ⟨b, off, none⟩) l.length cap)) (by kernel_rfl) (by first | (go_keep; done) | ((repeat' apply And.intro) <;> go_simp)) (fun hHeld => ?_)
            refine wpAnyH_take (i := 0) (oi := ⟨some 24, _, _, _, _, _⟩) (v := ?_) rfl (by kernel_rfl) (by kernel_rfl) (by kernel_rfl) (fun _ _ _ h => nomatch h.1) (Or.inl ⟨by rfl, ?_⟩) (by assumption) ?_
            rotate_left
            · intro w hSw; (try dsimp only at hSw); go_simp; try with_reducible rfl
            try simp only [Act.put, List.setIfInBounds_toArray, List.set_cons_zero, List.set_cons_succ]
            refine wpAnyH_take (i := 1) (oi := ⟨some 25, _, _, _, _, _⟩) (v := ?_) rfl (by kernel_rfl) (by kernel_rfl) (by kernel_rfl) (fun _ _ _ h => nomatch h.1) (Or.inl ⟨by rfl, ?_⟩) (by assumption) ?_
            rotate_left
            · intro w hSw; (try dsimp only at hSw); go_simp; try with_reducible rfl
            try simp only [Act.put, List.setIfInBounds_toArray, List.set_cons_zero, List.set_cons_succ]
            refine wpAnyH_take (i := 2) (oi := ⟨some 26, _, _, _, _, _⟩) (v := ?_) rfl (by kernel_rfl) (by kernel_rfl) (by kernel_rfl) (fun _ _ _ h => nomatch h.1) (Or.inl ⟨by rfl, ?_⟩) (by assumption) ?_
            rotate_left
            · intro w hSw; (try dsimp only at hSw); go_simp; try with_reducible rfl
            try simp only [Act.put, List.setIfInBounds_toArray, List.set_cons_zero, List.set_cons_succ]
            refine wpAnyH_take (i := 4) (oi := ⟨some 28, _, _, _, _, _⟩) (v := ?_) rfl (by kernel_rfl) (by kernel_rfl) (by kernel_rfl) (fun _ _ _ h => nomatch h.1) (Or.inl ⟨by rfl, ?_⟩) (by assumption) ?_
            rotate_left
            · intro w hSw; (try dsimp only at hSw); go_simp; try with_reducible rfl
            try simp only [Act.put, List.setIfInBounds_toArray, List.set_cons_zero, List.set_cons_succ]
            refine wpAnyH_take (i := 5) (oi := ⟨some 29, _, _, _, _, _⟩) (v := ?_) rfl (by kernel_rfl) (by kernel_rfl) (by kernel_rfl) (fun _ _ _ h => nomatch h.1) (Or.inl ⟨by rfl, ?_⟩) (by assumption) ?_
            rotate_left
            · intro w hSw; (try dsimp only at hSw); go_simp; try with_reducible rfl
            try simp only [Act.put, List.setIfInBounds_toArray, List.set_cons_zero, List.set_cons_succ]
            refine wpAnyH_ready (rs := [3, 11]) (by kernel_rfl) (by simp) ?_
            refine AllReadyH.cons (o := ⟨some 27, _, _, _, _, _⟩) rfl (fun KK hKK => ?_) (AllReadyH.cons (o := ⟨some 5, _, _, _, _, _⟩) rfl (fun KK hKK => ?_) AllReadyH.nil)
            · go_simp
              refine Calls.mono (row_i s p _ j b off cap l _ (by first | rfl | exact HX1.out) (by omega) vn2 (RR _ hX)) ?_
              rintro e wa ⟨rfl, hba⟩
              replace hX : Below W1.heap.size W1 wa := (by repeat (first | with_reducible exact Below.refl _ _ | with_reducible assumption | with_reducible refine Below.setCell ?_ (by first | omega | (simp <;> omega)) _ | with_reducible refine balloc ?_ _ | with_reducible refine Below.drew ?_ | with_reducible refine bstep ?_ (by with_reducible assumption)))
              replace q0 := (hX.cell (p := ⟨Bs, 0, none⟩) zB).trans d0
              replace q1 := (hX.cell (p := ⟨Bs, 1, none⟩) zB).trans d1
              replace q2 := (hX.cell (p := ⟨Bs, 2, none⟩) zB).trans d2
              clear hba
              (try go_wp2_with fail)
              refine hKK.out _ _ (by first | (go_keep; done) | ((repeat' apply And.intro) <;> go_simp)) (fun hHeld => ?_)
              clear hKK KK
              try simp only [Act.put, List.setIfInBounds_toArray, List.set_cons_zero, List.set_cons_succ]
              refine wpAnyH_ready (rs := [6, 11]) (by kernel_rfl) (by simp) ?_
              refine AllReadyH.cons (o := ⟨some 30, _, _, _, _, _⟩) rfl (fun KK hKK => ?_) (AllReadyH.cons (o := ⟨some 5, _, _, _, _, _⟩) rfl (fun KK hKK => ?_) AllReadyH.nil)
              · go_simp
                refine Calls.mono (row_i s p _ (j + 1) b off cap l _ (by first | rfl | simp) (by omega) vn2 (RR _ hX)) ?_
                rintro e wb ⟨rfl, hbb⟩
                replace hX : Below W1.heap.size W1 wb := (by repeat (first | with_reducible exact Below.refl _ _ | with_reducible assumption | with_reducible refine Below.setCell ?_ (by first | omega | (simp <;> omega)) _ | with_reducible refine balloc ?_ _ | with_reducible refine Below.drew ?_ | with_reducible refine bstep ?_ (by with_reducible assumption)))
                replace q0 := (hX.cell (p := ⟨Bs, 0, none⟩) zB).trans d0
                replace q1 := (hX.cell (p := ⟨Bs, 1, none⟩) zB).trans d1
                replace q2 := (hX.cell (p := ⟨Bs, 2, none⟩) zB).trans d2
                clear hbb
                (try go_wp2_with fail)
                refine hKK.out _ _ (by first | (go_keep; done) | ((repeat' apply And.intro) <;> go_simp)) (fun hHeld => ?_)
                clear hKK KK
                try simp only [Act.put, List.setIfInBounds_toArray, List.set_cons_zero, List.set_cons_succ]
                refine wpAnyH_ready (rs := [7, 11]) (by kernel_rfl) (by simp) ?_
                refine AllReadyH.cons (o := ⟨some 31, _, _, _, _, _⟩) rfl (fun KK hKK => ?_) (AllReadyH.cons (o := ⟨some 5, _, _, _, _, _⟩) rfl (fun KK hKK => ?_) AllReadyH.nil)
                · go_simp
                  refine Calls.mono (JC _) ?_
                  rintro e wc ⟨rfl, hbc⟩
                  replace hX : Below W1.heap.size W1 wc := (by repeat (first | with_reducible exact Below.refl _ _ | with_reducible assumption | with_reducible refine Below.setCell ?_ (by first | omega | (simp <;> omega)) _ | with_reducible refine balloc ?_ _ | with_reducible refine Below.drew ?_ | with_reducible refine bstep ?_ (by with_reducible assumption)))
                  replace q0 := (hX.cell (p := ⟨Bs, 0, none⟩) zB).trans d0
                  replace q1 := (hX.cell (p := ⟨Bs, 1, none⟩) zB).trans d1
                  replace q2 := (hX.cell (p := ⟨Bs, 2, none⟩) zB).trans d2
                  clear hbc
                  (try go_wp2_with fail)
                  refine hKK.out _ _ (by first | (go_keep; done) | ((repeat' apply And.intro) <;> go_simp)) (fun hHeld => ?_)
                  clear hKK KK
                  try simp only [Act.put, List.setIfInBounds_toArray, List.set_cons_zero, List.set_cons_succ]
                  refine wpAnyH_take (i := 8) (oi := ⟨some 23, _, _, _, _, _⟩) (v := ?_) rfl (by kernel_rfl) (by kernel_rfl) (by kernel_rfl) (fun _ _ _ h => nomatch h.1) (Or.inl ⟨by rfl, ?_⟩) (by assumption) ?_
                  rotate_left
                  · intro w hSw; (try dsimp only at hSw); go_simp; try with_reducible rfl
                  try simp only [Act.put, List.setIfInBounds_toArray, List.set_cons_zero, List.set_cons_succ]
                  refine wpAnyH_take (i := 9) (oi := ⟨some 32, _, _, _, _, _⟩) (v := ?_) rfl (by kernel_rfl) (by kernel_rfl) (by kernel_rfl) (fun _ _ _ h => nomatch h.1) (Or.inl ⟨by rfl, ?_⟩) (by assumption) ?_
                  rotate_left
                  · intro w hSw; (try dsimp only at hSw); go_simp; try with_reducible rfl
                  try simp only [Act.put, List.setIfInBounds_toArray, List.set_cons_zero, List.set_cons_succ]
                  refine wpAnyH_take (i := 10) (oi := ⟨some 33, _, _, _, _, _⟩) (v := ?_) rfl (by kernel_rfl) (by kernel_rfl) (by kernel_rfl) (fun _ _ _ h => nomatch h.1) (Or.inl ⟨by rfl, ?_⟩) (by assumption) ?_
                  rotate_left
                  · intro w hSw; (try dsimp only at hSw); go_simp; try with_reducible rfl
                  try simp only [Act.put, List.setIfInBounds_toArray, List.set_cons_zero, List.set_cons_succ]
                  refine wpAnyH_ready (rs := [11]) (by kernel_rfl) (by simp) ?_
                  refine AllReadyH.cons (o := ⟨some 5, _, _, _, _, _⟩) rfl (fun KK hKK => ?_) AllReadyH.nil
                  go_simp
                  have tg : Typ (wc.alloc (.cells #[(.int .i64 0), (.int .i64 0)] 62)) (wc.heap.size) := Typ.new _ _
                  have kg0 : (wc.alloc (.cells #[(.int .i64 0), (.int .i64 0)] 62)).cell? ⟨wc.heap.size, 0, none⟩ = some (.int .i64 0) := by go_simp
                  have kg1 : (wc.alloc (.cells #[(.int .i64 0), (.int .i64 0)] 62)).cell? ⟨wc.heap.size, 1, none⟩ = some (.int .i64 0) := by go_simp
                  have jg0 : (wc.alloc (.cells #[(.int .i64 0), (.int .i64 0)] 62)).frozen? ⟨wc.heap.size, 0, none⟩ = false := by go_simp
                  have jg1 : (wc.alloc (.cells #[(.int .i64 0), (.int .i64 0)] 62)).frozen? ⟨wc.heap.size, 1, none⟩ = false := by go_simp
                  have zg : wc.heap.size < (wc.alloc (.cells #[(.int .i64 0), (.int .i64 0)] 62)).heap.size := tg.lt
                  have hgl : W1.heap.size ≤ wc.heap.size := hX.size
                  have hX0 := hX
                  replace hX : Below W1.heap.size W1 (wc.alloc (.cells #[(.int .i64 0), (.int .i64 0)] 62)) := balloc hX _
                  replace q0 := (hX.cell (p := ⟨Bs, 0, none⟩) zB).trans d0
                  replace q1 := (hX.cell (p := ⟨Bs, 1, none⟩) zB).trans d1
                  replace q2 := (hX.cell (p := ⟨Bs, 2, none⟩) zB).trans d2
                  (try go_wp2_with fail)
                  refine hKK.out _ _ (by first | (go_keep; done) | ((repeat' apply And.intro) <;> go_simp)) (fun hHeld => ?_)
                  clear hKK KK
                  try simp only [Act.put, List.setIfInBounds_toArray, List.set_cons_zero, List.set_cons_succ]
                  refine wpAnyH_ready (rs := [12]) (by kernel_rfl) (by simp) ?_
                  refine AllReadyH.cons (o := ⟨none, _, _, _, _, _⟩) rfl (fun KK hKK => ?_) AllReadyH.nil
                  go_simp
                  (try go_wp2_with fail)
                  refine hKK.out _ _ (by first | (go_keep; done) | ((repeat' apply And.intro) <;> go_simp)) (fun hHeld => ?_)
                  clear hKK KK
                  try simp only [Act.put, List.setIfInBounds_toArray, List.set_cons_zero, List.set_cons_succ]
                  refine wpAnyH_take (i := 13) (oi := ⟨some 6, _, _, _, _, _⟩) (v := ?_) rfl (by kernel_rfl) (by kernel_rfl) (by kernel_rfl) (fun _ _ _ h => nomatch h.1) (Or.inl ⟨by rfl, ?_⟩) (by assumption) ?_
                  rotate_left
                  · intro w hSw; (try dsimp only at hSw); go_simp; try with_reducible rfl
                  try simp only [Act.put, List.setIfInBounds_toArray, List.set_cons_zero, List.set_cons_succ]
                  refine wpAnyH_done (by kernel_rfl) ?_ _
                  (try dsimp only [Exit.then, Met])
                  refine ⟨rfl, wc.heap.size, _, _, _, _, _, _, _, _, _, _, _, hgl, rfl, (by first | exact (tg.set _ _ _).set _ _ _ | exact Typ.new _ _), ?_, ?_, (by repeat (first | with_reducible exact Below.refl _ _ | with_reducible assumption | with_reducible refine Below.setCell ?_ (by first | omega | (simp <;> omega)) _ | with_reducible refine balloc ?_ _ | with_reducible refine Below.drew ?_ | with_reducible refine bstep ?_ (by with_reducible assumption)))⟩
                  all_goals go_simp
                · go_simp
                  have tg : Typ (wb.alloc (.cells #[(.int .i64 0), (.int .i64 0)] 62)) (wb.heap.size) := Typ.new _ _
                  have kg0 : (wb.alloc (.cells #[(.int .i64 0), (.int .i64 0)] 62)).cell? ⟨wb.heap.size, 0, none⟩ = some (.int .i64 0) := by go_simp
                  have kg1 : (wb.alloc (.cells #[(.int .i64 0), (.int .i64 0)] 62)).cell? ⟨wb.heap.size, 1, none⟩ = some (.int .i64 0) := by go_simp
                  have jg0 : (wb.alloc (.cells #[(.int .i64 0), (.int .i64 0)] 62)).frozen? ⟨wb.heap.size, 0, none⟩ = false := by go_simp
                  have jg1 : (wb.alloc (.cells #[(.int .i64 0), (.int .i64 0)] 62)).frozen? ⟨wb.heap.size, 1, none⟩ = false := by go_simp
                  have zg : wb.heap.size < (wb.alloc (.cells #[(.int .i64 0), (.int .i64 0)] 62)).heap.size := tg.lt
                  have hgl : W1.heap.size ≤ wb.heap.size := hX.size
                  have hX0 := hX
                  replace hX : Below W1.heap.size W1 (wb.alloc (.cells #[(.int .i64 0), (.int .i64 0)] 62)) := balloc hX _
                  replace q0 := (hX.cell (p := ⟨Bs, 0, none⟩) zB).trans d0
                  replace q1 := (hX.cell (p := ⟨Bs, 1, none⟩) zB).trans d1
                  replace q2 := (hX.cell (p := ⟨Bs, 2, none⟩) zB).trans d2
                  (try go_wp2_with fail)
                  refine hKK.out _ _ (by first | (go_keep; done) | ((repeat' apply And.intro) <;> go_simp)) (fun hHeld => ?_)
                  clear hKK KK
                  try simp only [Act.put, List.setIfInBounds_toArray, List.set_cons_zero, List.set_cons_succ]
                  refine wpAnyH_ready (rs := [7]) (by kernel_rfl) (by simp) ?_
                  refine AllReadyH.cons (o := ⟨some 31, _, _, _, _, _⟩) rfl (fun KK hKK => ?_) AllReadyH.nil
                  go_simp
                  refine Calls.mono (JC _) ?_
                  rintro e wc ⟨rfl, hbc⟩
                  replace hX : Below W1.heap.size W1 wc := (by repeat (first | with_reducible exact Below.refl _ _ | with_reducible assumption | with_reducible refine Below.setCell ?_ (by first | omega | (simp <;> omega)) _ | with_reducible refine balloc ?_ _ | with_reducible refine Below.drew ?_ | with_reducible refine bstep ?_ (by with_reducible assumption)))
                  replace tg := tg.below hbc
                  replace jg0 := fro_later hbc kg0 jg0
                  replace jg1 := fro_later hbc kg1 jg1
                  replace kg0 := cell_later hbc kg0
                  replace kg1 := cell_later hbc kg1
                  replace q0 := (hX.cell (p := ⟨Bs, 0, none⟩) zB).trans d0
                  replace q1 := (hX.cell (p := ⟨Bs, 1, none⟩) zB).trans d1
                  replace q2 := (hX.cell (p := ⟨Bs, 2, none⟩) zB).trans d2
                  clear hbc
                  replace zg := tg.lt
                  (try go_wp2_with fail)
                  refine hKK.out _ _ (by first | (go_keep; done) | ((repeat' apply And.intro) <;> go_simp)) (fun hHeld => ?_)
                  clear hKK KK
                  try simp only [Act.put, List.setIfInBounds_toArray, List.set_cons_zero, List.set_cons_succ]
                  refine wpAnyH_take (i := 8) (oi := ⟨some 23, _, _, _, _, _⟩) (v := ?_) rfl (by kernel_rfl) (by kernel_rfl) (by kernel_rfl) (fun _ _ _ h => nomatch h.1) (Or.inl ⟨by rfl, ?_⟩) (by assumption) ?_
                  rotate_left
                  · intro w hSw; (try dsimp only at hSw); go_simp; try with_reducible rfl
                  try simp only [Act.put, List.setIfInBounds_toArray, List.set_cons_zero, List.set_cons_succ]
                  refine wpAnyH_take (i := 9) (oi := ⟨some 32, _, _, _, _, _⟩) (v := ?_) rfl (by kernel_rfl) (by kernel_rfl) (by kernel_rfl) (fun _ _ _ h => nomatch h.1) (Or.inl ⟨by rfl, ?_⟩) (by assumption) ?_
                  rotate_left
                  · intro w hSw; (try dsimp only at hSw); go_simp; try with_reducible rfl
                  try simp only [Act.put, List.setIfInBounds_toArray, List.set_cons_zero, List.set_cons_succ]
                  refine wpAnyH_take (i := 10) (oi := ⟨some 33, _, _, _, _, _⟩) (v := ?_) rfl (by kernel_rfl) (by kernel_rfl) (by kernel_rfl) (fun _ _ _ h => nomatch h.1) (Or.inl ⟨by rfl, ?_⟩) (by assumption) ?_
                  rotate_left
                  · intro w hSw; (try dsimp only at hSw); go_simp; try with_reducible rfl
                  try simp only [Act.put, List.setIfInBounds_toArray, List.set_cons_zero, List.set_cons_succ]
                  refine wpAnyH_ready (rs := [12]) (by kernel_rfl) (by simp) ?_
                  refine AllReadyH.cons (o := ⟨none, _, _, _, _, _⟩) rfl (fun KK hKK => ?_) AllReadyH.nil
                  go_simp
                  (try go_wp2_with fail)
                  refine hKK.out _ _ (by first | (go_keep; done) | ((repeat' apply And.intro) <;> go_simp)) (fun hHeld => ?_)
                  clear hKK KK
                  try simp only [Act.put, List.setIfInBounds_toArray, List.set_cons_zero, List.set_cons_succ]
                  refine wpAnyH_take (i := 13) (oi := ⟨some 6, _, _, _, _, _⟩) (v := ?_) rfl (by kernel_rfl) (by kernel_rfl) (by kernel_rfl) (fun _ _ _ h => nomatch h.1) (Or.inl ⟨by rfl, ?_⟩) (by assumption) ?_
                  rotate_left
                  · intro w hSw; (try dsimp only at hSw); go_simp; try with_reducible rfl
                  try simp only [Act.put, List.setIfInBounds_toArray, List.set_cons_zero, List.set_cons_succ]
                  refine wpAnyH_done (by kernel_rfl) ?_ _
                  (try dsimp only [Exit.then, Met])
                  refine ⟨rfl, wb.heap.size, _, _, _, _, _, _, _, _, _, _, _, hgl, rfl, (by first | exact (tg.set _ _ _).set _ _ _ | exact Typ.new _ _), ?_, ?_, (by repeat (first | with_reducible exact Below.refl _ _ | with_reducible assumption | with_reducible refine Below.setCell ?_ (by first | omega | (simp <;> omega)) _ | with_reducible refine balloc ?_ _ | with_reducible refine Below.drew ?_ | with_reducible refine bstep ?_ (by with_reducible assumption)))⟩
                  all_goals go_simp
              · go_simp
                have tg : Typ (wa.alloc (.cells #[(.int .i64 0), (.int .i64 0)] 62)) (wa.heap.size) := Typ.new _ _
                have kg0 : (wa.alloc (.cells #[(.int .i64 0), (.int .i64 0)] 62)).cell? ⟨wa.heap.size, 0, none⟩ = some (.int .i64 0) := by go_simp
                have kg1 : (wa.alloc (.cells #[(.int .i64 0), (.int .i64 0)] 62)).cell? ⟨wa.heap.size, 1, none⟩ = some (.int .i64 0) := by go_simp
                have jg0 : (wa.alloc (.cells #[(.int .i64 0), (.int .i64 0)] 62)).frozen? ⟨wa.heap.size, 0, none⟩ = false := by go_simp
                have jg1 : (wa.alloc (.cells #[(.int .i64 0), (.int .i64 0)] 62)).frozen? ⟨wa.heap.size, 1, none⟩ = false := by go_simp
                have zg : wa.heap.size < (wa.alloc (.cells #[(.int .i64 0), (.int .i64 0)] 62)).heap.size := tg.lt
                have hgl : W1.heap.size ≤ wa.heap.size := hX.size
                have hX0 := hX
                replace hX : Below W1.heap.size W1 (wa.alloc (.cells #[(.int .i64 0), (.int .i64 0)] 62)) := balloc hX _
                replace q0 := (hX.cell (p := ⟨Bs, 0, none⟩) zB).trans d0
                replace q1 := (hX.cell (p := ⟨Bs, 1, none⟩) zB).trans d1
                replace q2 := (hX.cell (p := ⟨Bs, 2, none⟩) zB).trans d2
                (try go_wp2_with fail)
                refine hKK.out _ _ (by first | (go_keep; done) | ((repeat' apply And.intro) <;> go_simp)) (fun hHeld => ?_)
                clear hKK KK
                try simp only [Act.put, List.setIfInBounds_toArray, List.set_cons_zero, List.set_cons_succ]
                refine wpAnyH_ready (rs := [6]) (by kernel_rfl) (by simp) ?_
                refine AllReadyH.cons (o := ⟨some 30, _, _, _, _, _⟩) rfl (fun KK hKK => ?_) AllReadyH.nil
                go_simp
                refine Calls.mono (row_i s p _ (j + 1) b off cap l _ (by first | rfl | simp) (by omega) vn2 (RR _ hX)) ?_
                rintro e wb ⟨rfl, hbb⟩
                replace hX : Below W1.heap.size W1 wb := (by repeat (first | with_reducible exact Below.refl _ _ | with_reducible assumption | with_reducible refine Below.setCell ?_ (by first | omega | (simp <;> omega)) _ | with_reducible refine balloc ?_ _ | with_reducible refine Below.drew ?_ | with_reducible refine bstep ?_ (by with_reducible assumption)))
                replace tg := tg.below hbb
                replace jg0 := fro_later hbb kg0 jg0
                replace jg1 := fro_later hbb kg1 jg1
                replace kg0 := cell_later hbb kg0
                replace kg1 := cell_later hbb kg1
                replace q0 := (hX.cell (p := ⟨Bs, 0, none⟩) zB).trans d0
                replace q1 := (hX.cell (p := ⟨Bs, 1, none⟩) zB).trans d1
                replace q2 := (hX.cell (p := ⟨Bs, 2, none⟩) zB).trans d2
                clear hbb
                replace zg := tg.lt
                (try go_wp2_with fail)
                refine hKK.out _ _ (by first | (go_keep; done) | ((repeat' apply And.intro) <;> go_simp)) (fun hHeld => ?_)
                clear hKK KK
                try simp only [Act.put, List.setIfInBounds_toArray, List.set_cons_zero, List.set_cons_succ]
                refine wpAnyH_ready (rs := [7]) (by kernel_rfl) (by simp) ?_
                refine AllReadyH.cons (o := ⟨some 31, _, _, _, _, _⟩) rfl (fun KK hKK => ?_) AllReadyH.nil
                go_simp
                refine Calls.mono (JC _) ?_
                rintro e wc ⟨rfl, hbc⟩
                replace hX : Below W1.heap.size W1 wc := (by repeat (first | with_reducible exact Below.refl _ _ | with_reducible assumption | with_reducible refine Below.setCell ?_ (by first | omega | (simp <;> omega)) _ | with_reducible refine balloc ?_ _ | with_reducible refine Below.drew ?_ | with_reducible refine bstep ?_ (by with_reducible assumption)))
                replace tg := tg.below hbc
                replace jg0 := fro_later hbc kg0 jg0
                replace jg1 := fro_later hbc kg1 jg1
                replace kg0 := cell_later hbc kg0
                replace kg1 := cell_later hbc kg1
                replace q0 := (hX.cell (p := ⟨Bs, 0, none⟩) zB).trans d0
                replace q1 := (hX.cell (p := ⟨Bs, 1, none⟩) zB).trans d1
                replace q2 := (hX.cell (p := ⟨Bs, 2, none⟩) zB).trans d2
                clear hbc
                replace zg := tg.lt
                (try go_wp2_with fail)
                refine hKK.out _ _ (by first | (go_keep; done) | ((repeat' apply And.intro) <;> go_simp)) (fun hHeld => ?_)
                clear hKK KK
                try simp only [Act.put, List.setIfInBounds_toArray, List.set_cons_zero, List.set_cons_succ]
                refine wpAnyH_take (i := 8) (oi := ⟨some 23, _, _, _, _, _⟩) (v := ?_) rfl (by kernel_rfl) (by kernel_rfl) (by kernel_rfl) (fun _ _ _ h => nomatch h.1) (Or.inl ⟨by rfl, ?_⟩) (by assumption) ?_
                rotate_left
                · intro w hSw; (try dsimp only at hSw); go_simp; try with_reducible rfl
                try simp only [Act.put, List.setIfInBounds_toArray, List.set_cons_zero, List.set_cons_succ]
                refine wpAnyH_take (i := 9) (oi := ⟨some 32, _, _, _, _, _⟩) (v := ?_) rfl (by kernel_rfl) (by kernel_rfl) (by kernel_rfl) (fun _ _ _ h => nomatch h.1) (Or.inl ⟨by rfl, ?_⟩) (by assumption) ?_
                rotate_left
                · intro w hSw; (try dsimp only at hSw); go_simp; try with_reducible rfl
                try simp only [Act.put, List.setIfInBounds_toArray, List.set_cons_zero, List.set_cons_succ]
                refine wpAnyH_take (i := 10) (oi := ⟨some 33, _, _, _, _, _⟩) (v := ?_) rfl (by kernel_rfl) (by kernel_rfl) (by kernel_rfl) (fun _ _ _ h => nomatch h.1) (Or.inl ⟨by rfl, ?_⟩) (by assumption) ?_
                rotate_left
                · intro w hSw; (try dsimp only at hSw); go_simp; try with_reducible rfl
                try simp only [Act.put, List.setIfInBounds_toArray, List.set_cons_zero, List.set_cons_succ]
                refine wpAnyH_ready (rs := [12]) (by kernel_rfl) (by simp) ?_
                refine AllReadyH.cons (o := ⟨none, _, _, _, _, _⟩) rfl (fun KK hKK => ?_) AllReadyH.nil
                go_simp
                (try go_wp2_with fail)
                refine hKK.out _ _ (by first | (go_keep; done) | ((repeat' apply And.intro) <;> go_simp)) (fun hHeld => ?_)
                clear hKK KK
                try simp only [Act.put, List.setIfInBounds_toArray, List.set_cons_zero, List.set_cons_succ]
                refine wpAnyH_take (i := 13) (oi := ⟨some 6, _, _, _, _, _⟩) (v := ?_) rfl (by kernel_rfl) (by kernel_rfl) (by kernel_rfl) (fun _ _ _ h => nomatch h.1) (Or.inl ⟨by rfl, ?_⟩) (by assumption) ?_
                rotate_left
                · intro w hSw; (try dsimp only at hSw); go_simp; try with_reducible rfl
                try simp only [Act.put, List.setIfInBounds_toArray, List.set_cons_zero, List.set_cons_succ]
                refine wpAnyH_done (by kernel_rfl) ?_ _
                (try dsimp only [Exit.then, Met])
                refine ⟨rfl, wa.heap.size, _, _, _, _, _, _, _, _, _, _, _, hgl, rfl, (by first | exact (tg.set _ _ _).set _ _ _ | exact Typ.new _ _), ?_, ?_, (by repeat (first | with_reducible exact Below.refl _ _ | with_reducible assumption | with_reducible refine Below.setCell ?_ (by first | omega | (simp <;> omega)) _ | with_reducible refine balloc ?_ _ | with_reducible refine Below.drew ?_ | with_reducible refine bstep ?_ (by with_reducible assumption)))⟩
                all_goals go_simp
            · go_simp
              have tg : Typ (W1.drew.alloc (.cells #[(.int .i64 0), (.int .i64 0)] 62)) (W1.heap.size) := Typ.new _ _
              have kg0 : (W1.drew.alloc (.cells #[(.int .i64 0), (.int .i64 0)] 62)).cell? ⟨W1.heap.size, 0, none⟩ = some (.int .i64 0) := by go_simp
              have kg1 : (W1.drew.alloc (.cells #[(.int .i64 0), (.int .i64 0)] 62)).cell? ⟨W1.heap.size, 1, none⟩ = some (.int .i64 0) := by go_simp
              have jg0 : (W1.drew.alloc (.cells #[(.int .i64 0), (.int .i64 0)] 62)).frozen? ⟨W1.heap.size, 0, none⟩ = false := by go_simp
              have jg1 : (W1.drew.alloc (.cells #[(.int .i64 0), (.int .i64 0)] 62)).frozen? ⟨W1.heap.size, 1, none⟩ = false := by go_simp
              have zg : W1.heap.size < (W1.drew.alloc (.cells #[(.int .i64 0), (.int .i64 0)] 62)).heap.size := tg.lt
              have hgl : W1.heap.size ≤ W1.heap.size := hX.size
              have hX0 := hX
              replace hX : Below W1.heap.size W1 (W1.drew.alloc (.cells #[(.int .i64 0), (.int .i64 0)] 62)) := balloc hX _
              replace q0 := (hX.cell (p := ⟨Bs, 0, none⟩) zB).trans d0
              replace q1 := (hX.cell (p := ⟨Bs, 1, none⟩) zB).trans d1
              replace q2 := (hX.cell (p := ⟨Bs, 2, none⟩) zB).trans d2
              (try go_wp2_with fail)
              refine hKK.out _ _ (by first | (go_keep; done) | ((repeat' apply And.intro) <;> go_simp)) (fun hHeld => ?_)
              clear hKK KK
              try simp only [Act.put, List.setIfInBounds_toArray, List.set_cons_zero, List.set_cons_succ]
              refine wpAnyH_ready (rs := [3]) (by kernel_rfl) (by simp) ?_
              refine AllReadyH.cons (o := ⟨some 27, _, _, _, _, _⟩) rfl (fun KK hKK => ?_) AllReadyH.nil
              go_simp
              refine Calls.mono (row_i s p _ j b off cap l _ (by first | rfl | exact HX1.out) (by omega) vn2 (RR _ hX)) ?_
              rintro e wa ⟨rfl, hba⟩
              replace hX : Below W1.heap.size W1 wa := (by repeat (first | with_reducible exact Below.refl _ _ | with_reducible assumption | with_reducible refine Below.setCell ?_ (by first | omega | (simp <;> omega)) _ | with_reducible refine balloc ?_ _ | with_reducible refine Below.drew ?_ | with_reducible refine bstep ?_ (by with_reducible assumption)))
              replace tg := tg.below hba
              replace jg0 := fro_later hba kg0 jg0
              replace jg1 := fro_later hba kg1 jg1
              replace kg0 := cell_later hba kg0
              replace kg1 := cell_later hba kg1
              replace q0 := (hX.cell (p := ⟨Bs, 0, none⟩) zB).trans d0
              replace q1 := (hX.cell (p := ⟨Bs, 1, none⟩) zB).trans d1
              replace q2 := (hX.cell (p := ⟨Bs, 2, none⟩) zB).trans d2
              clear hba
              replace zg := tg.lt
              (try go_wp2_with fail)
              refine hKK.out _ _ (by first | (go_keep; done) | ((repeat' apply And.intro) <;> go_simp)) (fun hHeld => ?_)
              clear hKK KK
              try simp only [Act.put, List.setIfInBounds_toArray, List.set_cons_zero, List.set_cons_succ]
              refine wpAnyH_ready (rs := [6]) (by kernel_rfl) (by simp) ?_
              refine AllReadyH.cons (o := ⟨some 30, _, _, _, _, _⟩) rfl (fun KK hKK => ?_) AllReadyH.nil
              go_simp
              refine Calls.mono (row_i s p _ (j + 1) b off cap l _ (by first | rfl | simp) (by omega) vn2 (RR _ hX)) ?_
              rintro e wb ⟨rfl, hbb⟩
              replace hX : Below W1.heap.size W1 wb := (by repeat (first | with_reducible exact Below.refl _ _ | with_reducible assumption | with_reducible refine Below.setCell ?_ (by first | omega | (simp <;> omega)) _ | with_reducible refine balloc ?_ _ | with_reducible refine Below.drew ?_ | with_reducible refine bstep ?_ (by with_reducible assumption)))
              replace tg := tg.below hbb
              replace jg0 := fro_later hbb kg0 jg0
              replace jg1 := fro_later hbb kg1 jg1
              replace kg0 := cell_later hbb kg0
              replace kg1 := cell_later hbb kg1
              replace q0 := (hX.cell (p := ⟨Bs, 0, none⟩) zB).trans d0
              replace q1 := (hX.cell (p := ⟨Bs, 1, none⟩) zB).trans d1
              replace q2 := (hX.cell (p := ⟨Bs, 2, none⟩) zB).trans d2
              clear hbb
              replace zg := tg.lt
              (try go_wp2_with fail)
              refine hKK.out _ _ (by first | (go_keep; done) | ((repeat' apply And.intro) <;> go_simp)) (fun hHeld => ?_)
              clear hKK KK
              try simp only [Act.put, List.setIfInBounds_toArray, List.set_cons_zero, List.set_cons_succ]
              refine wpAnyH_ready (rs := [7]) (by kernel_rfl) (by simp) ?_
              refine AllReadyH.cons (o := ⟨some 31, _, _, _, _, _⟩) rfl (fun KK hKK => ?_) AllReadyH.nil
              go_simp
              refine Calls.mono (JC _) ?_
              rintro e wc ⟨rfl, hbc⟩
              replace hX : Below W1.heap.size W1 wc := (by repeat (first | with_reducible exact Below.refl _ _ | with_reducible assumption | with_reducible refine Below.setCell ?_ (by first | omega | (simp <;> omega)) _ | with_reducible refine balloc ?_ _ | with_reducible refine Below.drew ?_ | with_reducible refine bstep ?_ (by with_reducible assumption)))
              replace tg := tg.below hbc
              replace jg0 := fro_later hbc kg0 jg0
              replace jg1 := fro_later hbc kg1 jg1
              replace kg0 := cell_later hbc kg0
              replace kg1 := cell_later hbc kg1
              replace q0 := (hX.cell (p := ⟨Bs, 0, none⟩) zB).trans d0
              replace q1 := (hX.cell (p := ⟨Bs, 1, none⟩) zB).trans d1
              replace q2 := (hX.cell (p := ⟨Bs, 2, none⟩) zB).trans d2
              clear hbc
              replace zg := tg.lt
              (try go_wp2_with fail)
              refine hKK.out _ _ (by first | (go_keep; done) | ((repeat' apply And.intro) <;> go_simp)) (fun hHeld => ?_)
              clear hKK KK
              try simp only [Act.put, List.setIfInBounds_toArray, List.set_cons_zero, List.set_cons_succ]
              refine wpAnyH_take (i := 8) (oi := ⟨some 23, _, _, _, _, _⟩) (v := ?_) rfl (by kernel_rfl) (by kernel_rfl) (by kernel_rfl) (fun _ _ _ h => nomatch h.1) (Or.inl ⟨by rfl, ?_⟩) (by assumption) ?_
              rotate_left
              · intro w hSw; (try dsimp only at hSw); go_simp; try with_reducible rfl
              try simp only [Act.put, List.setIfInBounds_toArray, List.set_cons_zero, List.set_cons_succ]
              refine wpAnyH_take (i := 9) (oi := ⟨some 32, _, _, _, _, _⟩) (v := ?_) rfl (by kernel_rfl) (by kernel_rfl) (by kernel_rfl) (fun _ _ _ h => nomatch h.1) (Or.inl ⟨by rfl, ?_⟩) (by assumption) ?_
              rotate_left
              · intro w hSw; (try dsimp only at hSw); go_simp; try with_reducible rfl
              try simp only [Act.put, List.setIfInBounds_toArray, List.set_cons_zero, List.set_cons_succ]
              refine wpAnyH_take (i := 10) (oi := ⟨some 33, _, _, _, _, _⟩) (v := ?_) rfl (by kernel_rfl) (by kernel_rfl) (by kernel_rfl) (fun _ _ _ h => nomatch h.1) (Or.inl ⟨by rfl, ?_⟩) (by assumption) ?_
              rotate_left
              · intro w hSw; (try dsimp only at hSw); go_simp; try with_reducible rfl
              try simp only [Act.put, List.setIfInBounds_toArray, List.set_cons_zero, List.set_cons_succ]
              refine wpAnyH_ready (rs := [12]) (by kernel_rfl) (by simp) ?_
              refine AllReadyH.cons (o := ⟨none, _, _, _, _, _⟩) rfl (fun KK hKK => ?_) AllReadyH.nil
              go_simp
              (try go_wp2_with fail)
              refine hKK.out _ _ (by first | (go_keep; done) | ((repeat' apply And.intro) <;> go_simp)) (fun hHeld => ?_)
              clear hKK KK
              try simp only [Act.put, List.setIfInBounds_toArray, List.set_cons_zero, List.set_cons_succ]
              refine wpAnyH_take (i := 13) (oi := ⟨some 6, _, _, _, _, _⟩) (v := ?_) rfl (by kernel_rfl) (by kernel_rfl) (by kernel_rfl) (fun _ _ _ h => nomatch h.1) (Or.inl ⟨by rfl, ?_⟩) (by assumption) ?_
              rotate_left
              · intro w hSw; (try dsimp only at hSw); go_simp; try with_reducible rfl
              try simp only [Act.put, List.setIfInBounds_toArray, List.set_cons_zero, List.set_cons_succ]
              refine wpAnyH_done (by kernel_rfl) ?_ _
              (try dsimp only [Exit.then, Met])
              refine ⟨rfl, W1.heap.size, _, _, _, _, _, _, _, _, _, _, _, hgl, rfl, (by first | exact (tg.set _ _ _).set _ _ _ | exact Typ.new _ _), ?_, ?_, (by repeat (first | with_reducible exact Below.refl _ _ | with_reducible assumption | with_reducible refine Below.setCell ?_ (by first | omega | (simp <;> omega)) _ | with_reducible refine balloc ?_ _ | with_reducible refine Below.drew ?_ | with_reducible refine bstep ?_ (by with_reducible assumption)))⟩
              all_goals go_simp
          case rest =>
            obtain ⟨rfl, g, x23, x24, x25, x26, x27, x28, x29, x30, x31, x32, x33, hg, rfl, tg, k0, k1, hb2⟩ := h
            have hs2 := hb2.size
            have zg := tg.lt
            have e0 : W2.cell? ⟨Bs, 0, none⟩ = some (.int .i64 s) := (hb2.cell (p := ⟨Bs, 0, none⟩) zB).trans d0
            have e1 : W2.cell? ⟨Bs, 1, none⟩ = some (.int .i64 p) := (hb2.cell (p := ⟨Bs, 1, none⟩) zB).trans d1
            have e2 : W2.cell? ⟨Bs, 2, none⟩ = some (.slice (some ⟨b, off, none⟩) l.length cap) := (hb2.cell (p := ⟨Bs, 2, none⟩) zB).trans d2
            have HJ2 := Lib.hid (hJa _ _ _ hJ1.out hb2)
            have HK2 := Lib.hid (hK1.out.trans (Kp.below hb2 (by omega)))
            have RR2 := Lib.hid (show ∀ W', Below W2.heap.size W2 W' → Row W' b off l from fun W' h => RR W' (hb2.trans (h.mono hs2)))
            have hxv : (toS (mdS s p l (j + 1))).1 = ((s + (j : Int) * p + 1, s + ((j : Int) + 1) * p - 1), (m1, m2)) := by
              rw [toS_val HOM.out]
              unfold mdS
              rw [Nat.add_sub_cancel, HMM.out]
              have : ((j + 1 : Nat) : Int) = (j : Int) + 1 := by omega
              rw [this, show (j : Int) + 1 - 1 = j by omega]
            have HYM : Hid (∀ W3, Below W2.heap.size W2 W3 → YieldAt Fence.wide (n - 1) Try.prog ll #[.agg #[(.int .i64 (s + (j : Int) * p + 1)), (.int .i64 (s + ((j : Int) + 1) * p - 1))], .agg #[(.int .i64 m1), (.int .i64 m2)]] W3 (fun e W4 => ∃ bb : Bool, e = .returned (.bool bb) ∧ Hid ((bb = true → J (strS s p l (j + 1) ++ [toS (mdS s p l (j + 1))]) W4 ∧ Kp M n₀ W2 W4) ∧ (bb = false → Jx (strS s p l (j + 1) ++ [toS (mdS s p l (j + 1))]) W4)))) := Lib.hid (fun W3 h3 => by
              have := hY _ (toS (mdS s p l (j + 1))) W3 (hJa _ _ _ HJ2.out h3) (by have := strS_len s p l (j + 1); omega)
              simp only [encS, hxv] at this
              refine this.mono (fun e W4 h => ?_)
              rcases h with ⟨he, h1, h2⟩ | ⟨he, h1⟩
              · exact ⟨true, he, Lib.hid ⟨fun _ => ⟨h1, (Kp.below h3 (by omega)).trans h2⟩, fun h => (by cases h)⟩⟩
              · exact ⟨false, he, Lib.hid ⟨fun h => (by cases h), fun _ => h1⟩⟩)
            obtain ⟨mj1, mj2⟩ := mul_lt (k := (j : Int)) (n := 200) (p := p) (by omega) (by omega) (by omega)
            obtain ⟨mk1, mk2⟩ := mul_lt (k := (j : Int) + 1) (n := 200) (p := p) (by omega) (by omega) (by omega)
            have x5 : IntKind.i64.wrap (s + (j : Int) * p + 1) = s + (j : Int) * p + 1 := IntWalk.i64_in _ (by omega)
            have x7 : IntKind.i64.wrap (s + ((j : Int) + 1) * p - 1) = s + ((j : Int) + 1) * p - 1 := IntWalk.i64_in _ (by omega)
            have hmx : Try.prog.follows .mixedOrders = true := by kernel_rfl
            have HTG := Lib.hid tg
            clear hxv d0 d1 d2 RR JC q0 q1 q2 hX h0 hc tg
            gi_wp2_with fail
            refine wpIn_mono (Q := NoPanic (fun e2 a2 W4 => e2 = .normal ∧ ∃ (bb : Bool) (y34 y35 y36 y37 y38 y39 y40 y41 y42 y43 : Value), a2 = { tmps := #[.func (.yield ll) #[] #[], .pointer (some ⟨Bs, 0, none⟩), undef, (.int .i64 (((j : Int) + 1))), (.int .i64 (s + (((j : Int) + 1)) * p)), .pointer (some ⟨g, 0, none⟩), (.int .i64 0), .pointer (some ⟨Bs, 2, none⟩), .slice (some ⟨b, off, none⟩) l.length cap, (.int .i64 (l.length)), (.int .i64 (((j : Int) + 1))), (.bool true), (.int .i64 (((j : Int) + 1))), .agg #[(.int .i64 s), (.int .i64 p), .slice (some ⟨b, off, none⟩) l.length cap], (.int .i64 (((j : Int) + 1))), (.int .i64 (s + (((j : Int) + 1)) * p)), (.int .i64 (((j : Int) + 1))), (.bool true), (.bool true), .pointer (some ⟨Bs, 1, none⟩), (.int .i64 p), (.bool true), (.bool true), x23, x24, x25, x26, x27, x28, x29, x30, x31, x32, x33, y34, y35, y36, y37, y38, y39, y40, y41, y42, y43, (.bool bb), (.bool (!bb)), u46, u47, u48, u49, u50, u51, u52, u53, u54, u55], defers := [] } ∧ Hid ((bb = true → J (strS s p l (j + 1) ++ [toS (mdS s p l (j + 1))]) W4 ∧ Kp M n₀ W2 W4) ∧ (bb = false → Jx (strS s p l (j + 1) ++ [toS (mdS s p l (j + 1))]) W4)))) ?region6 (fun e2 a2 W4 h => ?rest6)
            case region6 =>
              gi_region_with_o (first | (refine ⟨trivial, ?_⟩; refine (callsIn_wide.2 (time_i s p _ j _ _ (by first | rfl | exact HX1.out) ⟨vs1, vs2⟩ ⟨vp1, vp2⟩ (by omega))).mono ?_; rintro e W3 ⟨rfl, hbt⟩; have hb3 : Below W2.heap.size W2 W3 := bstep (Below.drew (Below.refl _ _)) hbt; have g0 := cell_later hb3 k0; have g1 := cell_later hb3 k1; obtain ⟨fn, tmps, assign, body, hy, hR⟩ := HYM.out W3 hb3; clear hbt hb3) | ((with_reducible refine hR.mono ?_); rintro e W4 ⟨bb, rfl, hres⟩))
              all_goals (refine NoPanic.normal ?_; exact ⟨rfl, bb, _, _, _, _, _, _, _, _, _, _, rfl, hres⟩)
            case rest6 =>
              obtain ⟨rfl, bb, y34, y35, y36, y37, y38, y39, y40, y41, y42, y43, rfl, hres⟩ := NoPanic.imp _ _ _ h
              cases bb
              · gi_wp2
                refine bodyPost_ret (results_none rfl _ _ _) rfl ?_
                exact ⟨⟨_, rfl⟩, .inr ⟨_, (List.prefix_append _ _).trans (by rw [← HSM.out]; exact strS_prefix (by omega)), hres.out.2 (by simp)⟩⟩
              · obtain ⟨hJ4, hK4⟩ := hres.out.1 (by simp)
                have HJ4 := Lib.hid hJ4
                have HK4 := Lib.hid (HK2.out.trans hK4)
                have f0 := (hK4.but.cell (p := ⟨Bs, 0, none⟩) hBl hBM).trans e0
                have f1 := (hK4.but.cell (p := ⟨Bs, 1, none⟩) hBl hBM).trans e1
                have f2 := (hK4.but.cell (p := ⟨Bs, 2, none⟩) hBl hBM).trans e2
                have hr4 := hK4.but.row hb hbM (RR2.out _ (Below.refl _ _))
                have hs4 := hK4.but.size
                clear hJ4 hK4 hres HYM x5 x7 e0 e1 e2 k0 k1 h
                have hxp : (toS (ptS s p l (j + 1))).1 = ((s + ((j : Int) + 1) * p, s + ((j : Int) + 1) * p), gt l (j + 1)) := by
                  rw [toS_val HOK.out]
                  unfold ptS
                  rw [show ((j + 1 : Nat) : Int) = ((j : Int) + 1) by omega]
                have HYT : Hid (∀ W5, Below W4.heap.size W4 W5 → YieldAt Fence.wide (n - 1) Try.prog ll #[.agg #[(.int .i64 (s + ((j : Int) + 1) * p)), (.int .i64 (s + ((j : Int) + 1) * p))], .agg #[(.int .i64 ((gt l (j + 1)).1)), (.int .i64 ((gt l (j + 1)).2))]] W5 (fun e W6 => ∃ bb : Bool, e = .returned (.bool bb) ∧ Hid ((bb = true → J (strS s p l (j + 1) ++ [toS (mdS s p l (j + 1))] ++ [(toS (ptS s p l (j + 1)))]) W6 ∧ Kp M n₀ W4 W6) ∧ (bb = false → Jx (strS s p l (j + 1) ++ [toS (mdS s p l (j + 1))] ++ [(toS (ptS s p l (j + 1)))]) W6)))) := Lib.hid (fun W5 h5 => by
                  have := hY (strS s p l (j + 1) ++ [toS (mdS s p l (j + 1))]) (toS (ptS s p l (j + 1))) W5 (hJa _ _ _ HJ4.out h5) (by have h := congrArg List.length HSM.out; have h2 := strS_len s p l (j + 1 + 1); simp only [List.length_append, List.length_singleton] at h; (try simp only [List.length_append, List.length_singleton]); omega)
                  simp only [encS, hxp] at this
                  refine this.mono (fun e W6 h => ?_)
                  rcases h with ⟨he, h1, h2⟩ | ⟨he, h1⟩
                  · exact ⟨true, he, Lib.hid ⟨fun _ => ⟨h1, (Kp.below h5 (by have := HK4.out.but.size; omega)).trans h2⟩, fun h => (by cases h)⟩⟩
                  · exact ⟨false, he, Lib.hid ⟨fun h => (by cases h), fun _ => h1⟩⟩)
                clear hxp hJa
                gi_wp2_with fail
                refine ⟨trivial, ?_⟩
                refine (callsIn_wide.2 (row_i s p _ (j + 1) b off cap l _ (by first | rfl | simp) hlt vn2 hr4)).mono ?_
                rintro e W5 ⟨rfl, hb5⟩
                obtain ⟨fn7, tmps7, assign7, body7, hy7, hR7⟩ := HYT.out W5 hb5
                clear hb5 f0 f1 f2
                generalize gt l (j + 1) = gk at *
                obtain ⟨gk1, gk2⟩ := gk
                dsimp only at *
                gi_wp2_with fail
                refine hR7.mono ?_
                rintro e W6 ⟨bb7, rfl, hres7⟩
                cases bb7
                · gi_wp2
                  refine bodyPost_ret (results_none rfl _ _ _) rfl ?_
                  exact ⟨⟨_, rfl⟩, .inr ⟨_, by rw [← HSM.out]; exact strS_prefix (by omega), hres7.out.2 (by simp)⟩⟩
                · gi_wp2
                  obtain ⟨hJ6, hK6⟩ := hres7.out.1 (by simp)
                  go_roundw
                  case rel => exact ⟨j + 1 + 1, by omega, by simp, by rw [HSM.out]; exact hJ6, HK4.out.trans hK6⟩
                  case measure => simp [intOf]; omega
        · have HSM : Hid (strS s p l (k + 1) = strS s p l k ++ [toS (ptS s p l k)]) := Lib.hid (strS_no (fun h => hp1 h.2))
          have hr1 := RR0.out _ (Below.refl _ _)
          have hs4 := hs1
          have hxp : (toS (ptS s p l (k))).1 = ((s + (k : Int) * p, s + (k : Int) * p), gt l (k)) := by
            rw [toS_val HOK.out]
            unfold ptS
            rw [show ((k : Nat) : Int) = (k : Int) by omega]
          have HYT : Hid (∀ W5, Below W1.heap.size W1 W5 → YieldAt Fence.wide (n - 1) Try.prog ll #[.agg #[(.int .i64 (s + (k : Int) * p)), (.int .i64 (s + (k : Int) * p))], .agg #[(.int .i64 ((gt l (k)).1)), (.int .i64 ((gt l (k)).2))]] W5 (fun e W6 => ∃ bb : Bool, e = .returned (.bool bb) ∧ Hid ((bb = true → J (strS s p l k ++ [(toS (ptS s p l (k)))]) W6 ∧ Kp M n₀ W1 W6) ∧ (bb = false → Jx (strS s p l k ++ [(toS (ptS s p l (k)))]) W6)))) := Lib.hid (fun W5 h5 => by
            have := hY (strS s p l k) (toS (ptS s p l (k))) W5 (hJa _ _ _ hJ1.out h5) (by have h := congrArg List.length HSM.out; have h2 := strS_len s p l (k + 1); simp only [List.length_append, List.length_singleton] at h; (try simp only [List.length_append, List.length_singleton]); omega)
            simp only [encS, hxp] at this
            refine this.mono (fun e W6 h => ?_)
            rcases h with ⟨he, h1, h2⟩ | ⟨he, h1⟩
            · exact ⟨true, he, Lib.hid ⟨fun _ => ⟨h1, (Kp.below h5 (by have := hK1.out.but.size; omega)).trans h2⟩, fun h => (by cases h)⟩⟩
            · exact ⟨false, he, Lib.hid ⟨fun h => (by cases h), fun _ => h1⟩⟩)
          clear hxp hJa
          gi_wp2_with fail
          refine ⟨trivial, ?_⟩
          refine (callsIn_wide.2 (row_i s p _ (k) b off cap l _ (by first | rfl | simp) hlt vn2 hr1)).mono ?_
          rintro e W5 ⟨rfl, hb5⟩
          obtain ⟨fn7, tmps7, assign7, body7, hy7, hR7⟩ := HYT.out W5 hb5
          clear hb5 d0 d1 d2
          generalize gt l (k) = gk at *
          obtain ⟨gk1, gk2⟩ := gk
          dsimp only at *
          gi_wp2_with fail
          refine hR7.mono ?_
          rintro e W6 ⟨bb7, rfl, hres7⟩
          cases bb7
          · gi_wp2
            refine bodyPost_ret (results_none rfl _ _ _) rfl ?_
            exact ⟨⟨_, rfl⟩, .inr ⟨_, by rw [← HSM.out]; exact strS_prefix (by omega), hres7.out.2 (by simp)⟩⟩
          · gi_wp2
            obtain ⟨hJ6, hK6⟩ := hres7.out.1 (by simp)
            go_roundw
            case rel => exact ⟨k + 1, by omega, by simp, by rw [HSM.out]; exact hJ6, hK1.out.trans hK6⟩
            case measure => simp [intOf]; omega
      · have HSM : Hid (strS s p l (k + 1) = strS s p l k ++ [toS (ptS s p l k)]) := Lib.hid (strS_no (fun h => hk0 h.1))
        have hr1 := RR0.out _ (Below.refl _ _)
        have hs4 := hs1
        have hxp : (toS (ptS s p l (k))).1 = ((s + (k : Int) * p, s + (k : Int) * p), gt l (k)) := by
          rw [toS_val HOK.out]
          unfold ptS
          rw [show ((k : Nat) : Int) = (k : Int) by omega]
        have HYT : Hid (∀ W5, Below W1.heap.size W1 W5 → YieldAt Fence.wide (n - 1) Try.prog ll #[.agg #[(.int .i64 (s + (k : Int) * p)), (.int .i64 (s + (k : Int) * p))], .agg #[(.int .i64 ((gt l (k)).1)), (.int .i64 ((gt l (k)).2))]] W5 (fun e W6 => ∃ bb : Bool, e = .returned (.bool bb) ∧ Hid ((bb = true → J (strS s p l k ++ [(toS (ptS s p l (k)))]) W6 ∧ Kp M n₀ W1 W6) ∧ (bb = false → Jx (strS s p l k ++ [(toS (ptS s p l (k)))]) W6)))) := Lib.hid (fun W5 h5 => by
          have := hY (strS s p l k) (toS (ptS s p l (k))) W5 (hJa _ _ _ hJ1.out h5) (by have h := congrArg List.length HSM.out; have h2 := strS_len s p l (k + 1); simp only [List.length_append, List.length_singleton] at h; (try simp only [List.length_append, List.length_singleton]); omega)
          simp only [encS, hxp] at this
          refine this.mono (fun e W6 h => ?_)
          rcases h with ⟨he, h1, h2⟩ | ⟨he, h1⟩
          · exact ⟨true, he, Lib.hid ⟨fun _ => ⟨h1, (Kp.below h5 (by have := hK1.out.but.size; omega)).trans h2⟩, fun h => (by cases h)⟩⟩
          · exact ⟨false, he, Lib.hid ⟨fun h => (by cases h), fun _ => h1⟩⟩)
        clear hxp hJa
        gi_wp2_with fail
        refine ⟨trivial, ?_⟩
        refine (callsIn_wide.2 (row_i s p _ (k) b off cap l _ (by first | rfl | simp) hlt vn2 hr1)).mono ?_
        rintro e W5 ⟨rfl, hb5⟩
        obtain ⟨fn7, tmps7, assign7, body7, hy7, hR7⟩ := HYT.out W5 hb5
        clear hb5 d0 d1 d2
        generalize gt l (k) = gk at *
        obtain ⟨gk1, gk2⟩ := gk
        dsimp only at *
        gi_wp2_with fail
        refine hR7.mono ?_
        rintro e W6 ⟨bb7, rfl, hres7⟩
        cases bb7
        · gi_wp2
          refine bodyPost_ret (results_none rfl _ _ _) rfl ?_
          exact ⟨⟨_, rfl⟩, .inr ⟨_, by rw [← HSM.out]; exact strS_prefix (by omega), hres7.out.2 (by simp)⟩⟩
        · gi_wp2
          obtain ⟨hJ6, hK6⟩ := hres7.out.1 (by simp)
          go_roundw
          case rel => exact ⟨k + 1, by omega, by simp, by rw [HSM.out]; exact hJ6, hK1.out.trans hK6⟩
          case measure => simp [intOf]; omega
    · obtain rfl : k = l.length := by omega
      gi_wp2
      go_end0
      exact ⟨⟨_, rfl⟩, .inl ⟨_, rfl, hJs⟩⟩

end Go.Proofs.Ytemogomligbgiaa.Ti
