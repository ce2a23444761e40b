/- TidG: during. -/
import Derived.Test.YtemogomligbgiaaTidF
import Derived.RangeFuncNested
import Derived.LoopTactic
import Derived.Deep.DeepCutAuto
import Derived.Deep.QuietTactic
import Derived.RangeFuncBound
import Derived.RangeFuncCalls
import Derived.RangeFuncLeaves
import Derived.Shelf.Abstract
import Derived.Shelf.RegionOpen
import Derived.WalkKit
import Derived.OwnWalkIn
import Derived.TacticsInMore
import Derived.LoopNIn
import Derived.LoopIn
import Derived.Outline
import Derived.IntWalk
import Derived.Lib.Hide
import Derived.StillTailTactics
import Derived.BigRegion
import Derived.Deep.RegionWith
import Derived.RangeFuncBox
import Derived.Maps.AppendAt
namespace Go.Proofs.Ytemogomligbgiaa.Ti
open Go.RowKit Go.Shelf Sp
set_option linter.unusedSimpArgs false
set_option linter.unusedVariables false

attribute [local go_sem] Oper.semAt_some
set_option maxRecDepth 100000 in
set_option maxHeartbeats 8000000 in
theorem during_in (n : Nat) (hn : 6 ≤ n) (s p a1 a2 : Int) (b off cap : Nat) (l : List Pr) (w : World) (hv : vaT s p l = true) (h1a : s ≤ a1) (h2a : a1 ≤ a2) (h3a : a2 ≤ laT s p l) (hr : Row w b off l) :
    CallsIn Fence.wide n Try.prog 43 #[.agg #[(.int .i64 s), (.int .i64 p), .slice (some ⟨b, off, none⟩) l.length cap], .agg #[(.int .i64 a1), (.int .i64 a2)]] w (Ret w (.agg #[(.int .i64 ((duT s p l (a1, a2)).1)), (.int .i64 ((duT s p l (a1, a2)).2))])) := by
  have h1 : 1 ≤ n := by omega
  obtain ⟨⟨vs1, vs2⟩, ⟨vp1, vp2⟩, ⟨vn1, vn2⟩, ⟨_, hla⟩, vall⟩ := vaT_iff.1 hv
  obtain ⟨hq1, hq2, hq3⟩ := div_lt (x := a1 - s) (p := p) (n := l.length) (by omega) (by omega) (by omega) (by unfold laT at h3a; omega)
  have hlat := Lib.hid h3a
  have hbl := hr.lt (by omega)
  obtain ⟨rr, hrr⟩ : ∃ rr, gt l ((a1 - s) / p).toNat = rr := ⟨_, rfl⟩
  obtain ⟨r1, r2⟩ := rr
  have hrok : okH (r1, r2) = true := by rw [← hrr]; exact all_gt' vall _
  have HD : Hid (duT s p l (a1, a2) = duK (a1, a2) (r1, r2) (strs s p l)) := Lib.hid (by unfold duT; rw [hrr])
  have RC0 : ∀ W', Row W' b off l → Calls Try.prog 63 #[.agg #[(.int .i64 s), (.int .i64 p), .slice (some ⟨b, off, none⟩) l.length cap], (.int .i64 ((((a1 - s) / p).toNat : Int)))] W' (Ret W' (.agg #[(.int .i64 r1), (.int .i64 r2)])) := fun W' h => by
    have := row_c s p ((a1 - s) / p).toNat b off cap l W' hq1 vn2 h
    rwa [hrr] at this
  have x1 : IntKind.i64.wrap (a1 - s) = a1 - s := IntWalk.i64_in _ (by omega)
  have x3 : (p == 0) = false := by rw [beq_eq_false_iff_ne]; omega
  have x4 : ¬ (p = 0) := by omega
  generalize ((a1 - s) / p).toNat = q at *
  have x5 : IntKind.i64.wrap (q : Int) = (q : Int) := IntWalk.i64_in _ (by omega)
  have HR := Lib.hid hr
  have HV := Lib.hid hv
  have HT := Lib.hid vall
  have HRR := Lib.hid hrr
  have HQ2 := Lib.hid hq2
  have HX1 := Lib.hid x1
  have HX5 := Lib.hid x5
  clear hr hv hrr hq2 vall h3a x1 x5
  refine callsIn_of_wp_marks Try.func43 rfl trivial ?_ rfl
  simp only [Try.ntmps43, List.size_toArray, List.length_cons, List.length_nil, Nat.reduceAdd, Nat.reduceSub, Array.replicate_succ, Array.replicate_zero, List.push_toArray, List.append_toArray, List.nil_append, List.cons_append]
  gi_wp2_with fail
  obtain ⟨W0, hW0⟩ : ∃ W0, (((w.alloc (.cells #[(.int .i64 s), (.int .i64 p), (.slice (some ⟨b, off, none⟩) l.length cap)] 59)).alloc (.cells #[(.int .i64 a1), (.int .i64 a2)] 26)).alloc (.cells #[(.int .i64 0), (.int .i64 0)] 62)) = W0 := ⟨_, rfl⟩
  have kt0 : W0.cell? ⟨w.heap.size, 0, none⟩ = some (.int .i64 s) := by rw [← hW0]; clear hW0; go_simp
  have kt1 : W0.cell? ⟨w.heap.size, 1, none⟩ = some (.int .i64 p) := by rw [← hW0]; clear hW0; go_simp
  have kt2 : W0.cell? ⟨w.heap.size, 2, none⟩ = some (.slice (some ⟨b, off, none⟩) l.length cap) := by rw [← hW0]; clear hW0; go_simp
  have kq0 : W0.cell? ⟨w.heap.size + 1, 0, none⟩ = some (.int .i64 a1) := by rw [← hW0]; clear hW0; go_simp
  have kq1 : W0.cell? ⟨w.heap.size + 1, 1, none⟩ = some (.int .i64 a2) := by rw [← hW0]; clear hW0; go_simp
  have kr0 : W0.cell? ⟨w.heap.size + 1 + 1, 0, none⟩ = some (.int .i64 0) := by rw [← hW0]; clear hW0; go_simp
  have kr1 : W0.cell? ⟨w.heap.size + 1 + 1, 1, none⟩ = some (.int .i64 0) := by rw [← hW0]; clear hW0; go_simp
  have bR : Box2 W0 (w.heap.size + 1 + 1) 62 (0, 0) := by rw [← hW0]; have := Box2.new ((w.alloc (.cells #[(.int .i64 s), (.int .i64 p), (.slice (some ⟨b, off, none⟩) l.length cap)] 59)).alloc (.cells #[(.int .i64 a1), (.int .i64 a2)] 26)) 62 (0, 0); simpa only [World.size_alloc] using this
  have hB0 : Below w.heap.size w W0 := by rw [← hW0]; clear hW0; exact (by repeat (first | with_reducible exact Below.refl _ _ | with_reducible assumption | with_reducible refine Below.setCell ?_ (by first | omega | (simp <;> omega)) _ | with_reducible refine balloc ?_ _ | with_reducible refine Below.drew ?_ | with_reducible refine bstep ?_ (by with_reducible assumption)))
  have hsz : W0.heap.size = w.heap.size + 3 := by rw [← hW0]; simp
  rw [hW0]
  clear hW0
  have hX : Below W0.heap.size W0 W0.drew := (Below.refl _ _).drew
  have q0 := kt0
  have q1 := kt1
  have q2 := kt2
  have q3 := kq0
  have z0 : w.heap.size < W0.heap.size := by omega
  have z1 : w.heap.size + 1 < W0.heap.size := by omega
  have x1 := HX1.out
  have hszl : w.heap.size + 3 ≤ W0.heap.size := by omega
  have HSZ := Lib.hid hsz
  clear hsz
  have RC : ∀ W', Below W0.heap.size W0 W' → Calls Try.prog 63 #[.agg #[(.int .i64 s), (.int .i64 p), .slice (some ⟨b, off, none⟩) l.length cap], (.int .i64 (IntKind.i64.wrap (q : Int)))] W' (Ret W' (.agg #[(.int .i64 r1), (.int .i64 r2)])) := fun W' h => by rw [HX5.out]; exact RC0 W' ((HR.out.below hbl hB0).below (B := W0.heap.size) (by omega) h)
  refine wpIn_mono (Q := fun e2 ac W2 => e2 = .normal ∧ ∃ (A : Nat) (x10 x11 x12 x13 x14 x15 x16 x17 x18 x19 : Value), W0.heap.size ≤ A ∧ ac = { tmps := #[.agg #[(.int .i64 s), (.int .i64 p), .slice (some ⟨b, off, none⟩) l.length cap], .agg #[(.int .i64 a1), (.int .i64 a2)], .pointer (some ⟨w.heap.size, 0, none⟩), .pointer (some ⟨w.heap.size + 1, 0, none⟩), .pointer (some ⟨w.heap.size + 1 + 1, 0, none⟩), .pointer (some ⟨A, 0, none⟩), undef, undef, undef, undef, x10, x11, x12, x13, x14, x15, x16, x17, x18, x19, undef, undef, undef, undef, undef, undef, undef, undef, undef, undef, undef, undef, undef, undef, undef, undef, undef, undef, undef], defers := [] } ∧ Box2 W2 A 62 (r1, r2) ∧ Below W0.heap.size W0 W2) ?region (fun e2 ac W2 h => ?rest)
  case region =>
    clear RC0
    refine wpIn_wide.2 ?_
    refine wp_region_held_drew (S := fun w' => w'.cell? ⟨w.heap.size, 0, none⟩ = some (.int .i64 s) ∧ w'.cell? ⟨w.heap.size, 1, none⟩ = some (.int .i64 p) ∧ w'.cell? ⟨w.heap.size, 2, none⟩ = some (.slice (some ⟨b, off, none⟩) l.length cap) ∧ w'.cell? ⟨w.heap.size + 1, 0, none⟩ = some (.int .i64 a1)) (by kernel_rfl) (by first | (go_keep; done) | ((repeat' apply And.intro) <;> go_simp)) (fun hHeld => ?_)
    refine wpAnyH_take (i := 0) (oi := ⟨some 10, _, _, _, _, _⟩) (v := ?_) rfl (by kernel_rfl) (by kernel_rfl) (by kernel_rfl) (fun _ _ _ h => nomatch h.1) (Or.inl ⟨by rfl, ?_⟩) (by assumption) ?_
    rotate_left
    · intro w hSw; (try dsimp only at hSw); go_simp; try with_reducible rfl
    try simp only [Act.put, List.setIfInBounds_toArray, List.set_cons_zero, List.set_cons_succ]
    refine wpAnyH_take (i := 1) (oi := ⟨some 11, _, _, _, _, _⟩) (v := ?_) rfl (by kernel_rfl) (by kernel_rfl) (by kernel_rfl) (fun _ _ _ h => nomatch h.1) (Or.inl ⟨by rfl, ?_⟩) (by assumption) ?_
    rotate_left
    · intro w hSw; (try dsimp only at hSw); go_simp; try with_reducible rfl
    try simp only [Act.put, List.setIfInBounds_toArray, List.set_cons_zero, List.set_cons_succ]
    refine wpAnyH_take (i := 2) (oi := ⟨some 12, _, _, _, _, _⟩) (v := ?_) rfl (by kernel_rfl) (by kernel_rfl) (by kernel_rfl) (fun _ _ _ h => nomatch h.1) (Or.inl ⟨by rfl, ?_⟩) (by assumption) ?_
    rotate_left
    · intro w hSw; (try dsimp only at hSw); go_simp; try with_reducible rfl
    try simp only [Act.put, List.setIfInBounds_toArray, List.set_cons_zero, List.set_cons_succ]
    refine wpAnyH_take (i := 3) (oi := ⟨some 13, _, _, _, _, _⟩) (v := ?_) rfl (by kernel_rfl) (by kernel_rfl) (by kernel_rfl) (fun _ _ _ h => nomatch h.1) (Or.inl ⟨by rfl, ?_⟩) (by assumption) ?_
    rotate_left
    · intro w hSw; (try dsimp only at hSw); go_simp; try with_reducible rfl
    try simp only [Act.put, List.setIfInBounds_toArray, List.set_cons_zero, List.set_cons_succ]
    refine wpAnyH_take (i := 4) (oi := ⟨some 14, _, _, _, _, _⟩) (v := ?_) rfl (by kernel_rfl) (by kernel_rfl) (by kernel_rfl) (fun _ _ _ h => nomatch h.1) (Or.inl ⟨by rfl, ?_⟩) (by assumption) ?_
    rotate_left
    · intro w hSw; (try dsimp only at hSw); go_simp; try with_reducible rfl
    try simp only [Act.put, List.setIfInBounds_toArray, List.set_cons_zero, List.set_cons_succ]
    refine wpAnyH_take (i := 5) (oi := ⟨some 15, _, _, _, _, _⟩) (v := ?_) rfl (by kernel_rfl) (by kernel_rfl) (by kernel_rfl) (fun _ _ _ h => nomatch h.1) (Or.inl ⟨by rfl, ?_⟩) (by assumption) ?_
    rotate_left
    · intro w hSw; (try dsimp only at hSw); go_simp; try with_reducible rfl
    try simp only [Act.put, List.setIfInBounds_toArray, List.set_cons_zero, List.set_cons_succ]
    refine wpAnyH_take (i := 6) (oi := ⟨some 16, _, _, _, _, _⟩) (v := ?_) rfl (by kernel_rfl) (by kernel_rfl) (by kernel_rfl) (fun _ _ _ h => nomatch h.1) (Or.inl ⟨by rfl, ?_⟩) (by assumption) ?_
    rotate_left
    · intro w hSw; (try dsimp only at hSw); go_simp; try with_reducible rfl
    try simp only [Act.put, List.setIfInBounds_toArray, List.set_cons_zero, List.set_cons_succ]
    refine wpAnyH_take (i := 7) (oi := ⟨some 17, _, _, _, _, _⟩) (v := ?_) rfl (by kernel_rfl) (by kernel_rfl) (by kernel_rfl) (fun _ _ _ h => nomatch h.1) (Or.inl ⟨by rfl, ?_⟩) (by assumption) ?_
    rotate_left
    · intro w hSw; (try dsimp only at hSw); go_simp; try with_reducible rfl
    try simp only [Act.put, List.setIfInBounds_toArray, List.set_cons_zero, List.set_cons_succ]
    refine wpAnyH_take (i := 8) (oi := ⟨some 18, _, _, _, _, _⟩) (v := ?_) rfl (by kernel_rfl) (by kernel_rfl) (by kernel_rfl) (fun _ _ _ h => nomatch h.1) (Or.inl ⟨by rfl, ?_⟩) (by assumption) ?_
    rotate_left
    · intro w hSw; (try dsimp only at hSw); go_simp; try with_reducible rfl
    try simp only [Act.put, List.setIfInBounds_toArray, List.set_cons_zero, List.set_cons_succ]
    refine wpAnyH_ready (rs := [9, 10]) (by kernel_rfl) (by simp) ?_
    refine AllReadyH.cons (o := ⟨some 19, _, _, _, _, _⟩) rfl (fun KK hKK => ?_) (AllReadyH.cons (o := ⟨some 5, _, _, _, _, _⟩) rfl (fun KK hKK => ?_) AllReadyH.nil)
    · go_simp
      refine Calls.mono (RC _ hX) ?_
      rintro e wa ⟨rfl, hba⟩
      replace hX : Below W0.heap.size W0 wa := (by repeat (first | with_reducible exact Below.refl _ _ | with_reducible assumption | with_reducible refine Below.setCell ?_ (by first | omega | (simp <;> omega)) _ | with_reducible refine balloc ?_ _ | with_reducible refine Below.drew ?_ | with_reducible refine bstep ?_ (by with_reducible assumption)))
      replace q0 := (hX.cell (p := ⟨w.heap.size, 0, none⟩) z0).trans kt0
      replace q1 := (hX.cell (p := ⟨w.heap.size, 1, none⟩) z0).trans kt1
      replace q2 := (hX.cell (p := ⟨w.heap.size, 2, none⟩) z0).trans kt2
      replace q3 := (hX.cell (p := ⟨w.heap.size + 1, 0, none⟩) z1).trans kq0
      clear hba
      (try go_wp2_with fail)
      refine hKK.out _ _ (by first | (go_keep; done) | ((repeat' apply And.intro) <;> go_simp)) (fun hHeld => ?_)
      clear hKK KK
      try simp only [Act.put, List.setIfInBounds_toArray, List.set_cons_zero, List.set_cons_succ]
      refine wpAnyH_ready (rs := [10]) (by kernel_rfl) (by simp) ?_
      refine AllReadyH.cons (o := ⟨some 5, _, _, _, _, _⟩) rfl (fun KK hKK => ?_) AllReadyH.nil
      go_simp
      have tg : Box2 (wa.alloc (.cells #[(.int .i64 0), (.int .i64 0)] 62)) (wa.heap.size) 62 (0, 0) := Box2.new _ _ (0, 0)
      have zg : wa.heap.size < (wa.alloc (.cells #[(.int .i64 0), (.int .i64 0)] 62)).heap.size := tg.lt
      have hgl : W0.heap.size ≤ wa.heap.size := hX.size
      have hX0 := hX
      replace hX : Below W0.heap.size W0 (wa.alloc (.cells #[(.int .i64 0), (.int .i64 0)] 62)) := balloc hX _
      replace q0 := (hX.cell (p := ⟨w.heap.size, 0, none⟩) z0).trans kt0
      replace q1 := (hX.cell (p := ⟨w.heap.size, 1, none⟩) z0).trans kt1
      replace q2 := (hX.cell (p := ⟨w.heap.size, 2, none⟩) z0).trans kt2
      replace q3 := (hX.cell (p := ⟨w.heap.size + 1, 0, none⟩) z1).trans kq0
      (try go_wp2_with fail)
      refine hKK.out _ _ (by first | (go_keep; done) | ((repeat' apply And.intro) <;> go_simp)) (fun hHeld => ?_)
      clear hKK KK
      try simp only [Act.put, List.setIfInBounds_toArray, List.set_cons_zero, List.set_cons_succ]
      refine wpAnyH_ready (rs := [11]) (by kernel_rfl) (by simp) ?_
      refine AllReadyH.cons (o := ⟨none, _, _, _, _, _⟩) rfl (fun KK hKK => ?_) AllReadyH.nil
      go_simp
      (try go_wp2_with fail)
      refine hKK.out _ _ (by first | (go_keep; done) | ((repeat' apply And.intro) <;> go_simp)) (fun hHeld => ?_)
      clear hKK KK
      try simp only [Act.put, List.setIfInBounds_toArray, List.set_cons_zero, List.set_cons_succ]
      refine wpAnyH_done (by kernel_rfl) ?_ _
      (try dsimp only [Exit.then, Met])
      refine ⟨rfl, wa.heap.size, _, _, _, _, _, _, _, _, _, _, hgl, rfl, (by first | exact tg.set (r1, r2) | exact Box2.new _ _ (r1, r2)), (by repeat (first | with_reducible exact Below.refl _ _ | with_reducible assumption | with_reducible refine Below.setCell ?_ (by first | omega | (simp <;> omega)) _ | with_reducible refine balloc ?_ _ | with_reducible refine Below.drew ?_ | with_reducible refine bstep ?_ (by with_reducible assumption)))⟩
    · go_simp
      have tg : Box2 (W0.drew.alloc (.cells #[(.int .i64 0), (.int .i64 0)] 62)) (W0.heap.size) 62 (0, 0) := Box2.new _ _ (0, 0)
      have hgl : W0.heap.size ≤ W0.heap.size := hX.size
      have hX0 := hX
      replace hX : Below W0.heap.size W0 (W0.drew.alloc (.cells #[(.int .i64 0), (.int .i64 0)] 62)) := balloc hX _
      replace q0 := (hX.cell (p := ⟨w.heap.size, 0, none⟩) z0).trans kt0
      replace q1 := (hX.cell (p := ⟨w.heap.size, 1, none⟩) z0).trans kt1
      replace q2 := (hX.cell (p := ⟨w.heap.size, 2, none⟩) z0).trans kt2
      replace q3 := (hX.cell (p := ⟨w.heap.size + 1, 0, none⟩) z1).trans kq0
      (try go_wp2_with fail)
      refine hKK.out _ _ (by first | (go_keep; done) | ((repeat' apply And.intro) <;> go_simp)) (fun hHeld => ?_)
      clear hKK KK
      try simp only [Act.put, List.setIfInBounds_toArray, List.set_cons_zero, List.set_cons_succ]
      refine wpAnyH_ready (rs := [9]) (by kernel_rfl) (by simp) ?_
      refine AllReadyH.cons (o := ⟨some 19, _, _, _, _, _⟩) rfl (fun KK hKK => ?_) AllReadyH.nil
      go_simp
      refine Calls.mono (RC _ hX) ?_
      rintro e wa ⟨rfl, hba⟩
      replace hX : Below W0.heap.size W0 wa := (by repeat (first | with_reducible exact Below.refl _ _ | with_reducible assumption | with_reducible refine Below.setCell ?_ (by first | omega | (simp <;> omega)) _ | with_reducible refine balloc ?_ _ | with_reducible refine Below.drew ?_ | with_reducible refine bstep ?_ (by with_reducible assumption)))
      replace q0 := (hX.cell (p := ⟨w.heap.size, 0, none⟩) z0).trans kt0
      replace q1 := (hX.cell (p := ⟨w.heap.size, 1, none⟩) z0).trans kt1
      replace q2 := (hX.cell (p := ⟨w.heap.size, 2, none⟩) z0).trans kt2
      replace q3 := (hX.cell (p := ⟨w.heap.size + 1, 0, none⟩) z1).trans kq0
      replace tg := tg.below hba
      have jg0 := tg.f0
      have jg1 := tg.f1
      have kg0 : wa.cell? ⟨W0.heap.size, 0, none⟩ = some (.int .i64 0) := tg.c0
      have kg1 : wa.cell? ⟨W0.heap.size, 1, none⟩ = some (.int .i64 0) := tg.c1
      have zg := tg.lt
      clear hba
      (try go_wp2_with fail)
      refine hKK.out _ _ (by first | (go_keep; done) | ((repeat' apply And.intro) <;> go_simp)) (fun hHeld => ?_)
      clear hKK KK
      try simp only [Act.put, List.setIfInBounds_toArray, List.set_cons_zero, List.set_cons_succ]
      refine wpAnyH_ready (rs := [11]) (by kernel_rfl) (by simp) ?_
      refine AllReadyH.cons (o := ⟨none, _, _, _, _, _⟩) rfl (fun KK hKK => ?_) AllReadyH.nil
      go_simp
      (try go_wp2_with fail)
      refine hKK.out _ _ (by first | (go_keep; done) | ((repeat' apply And.intro) <;> go_simp)) (fun hHeld => ?_)
      clear hKK KK
      try simp only [Act.put, List.setIfInBounds_toArray, List.set_cons_zero, List.set_cons_succ]
      refine wpAnyH_done (by kernel_rfl) ?_ _
      (try dsimp only [Exit.then, Met])
      refine ⟨rfl, W0.heap.size, _, _, _, _, _, _, _, _, _, _, hgl, rfl, (by first | exact tg.set (r1, r2) | exact Box2.new _ _ (r1, r2)), (by repeat (first | with_reducible exact Below.refl _ _ | with_reducible assumption | with_reducible refine Below.setCell ?_ (by first | omega | (simp <;> omega)) _ | with_reducible refine balloc ?_ _ | with_reducible refine Below.drew ?_ | with_reducible refine bstep ?_ (by with_reducible assumption)))⟩
  case rest =>
    obtain ⟨rfl, A, x10, x11, x12, x13, x14, x15, x16, x17, x18, x19, hAg, rfl, bA, hb2⟩ := h
    clear RC0 RC hX q0 q1 q2 q3 x3 x4 hq1 hq3
    have bR2 := bR.below hb2
    have e0 := (hb2.cell (p := ⟨w.heap.size, 0, none⟩) z0).trans kt0
    have e1 := (hb2.cell (p := ⟨w.heap.size, 1, none⟩) z0).trans kt1
    have e2 := (hb2.cell (p := ⟨w.heap.size, 2, none⟩) z0).trans kt2
    have hs2 := hb2.size
    have hAl := bA.lt
    gi_wp2_with (refine ⟨trivial, ?_⟩; gi_at_call 65; refine (callsIn_wide.2 (stretches_c _ _ _ _)).mono ?_; rintro e w' ⟨rfl, rfl⟩)
    obtain ⟨W3, hW3⟩ : ∃ W3, (W2.alloc (.cells #[(.int .i64 s), (.int .i64 p), .slice (some ⟨b, off, none⟩) l.length cap] 59)) = W3 := ⟨_, rfl⟩
    have kS0 : W3.cell? ⟨W2.heap.size, 0, none⟩ = some (.int .i64 s) := by rw [← hW3]; clear hW3; go_simp
    have kS1 : W3.cell? ⟨W2.heap.size, 1, none⟩ = some (.int .i64 p) := by rw [← hW3]; clear hW3; go_simp
    have kS2 : W3.cell? ⟨W2.heap.size, 2, none⟩ = some (.slice (some ⟨b, off, none⟩) l.length cap) := by rw [← hW3]; clear hW3; go_simp
    have bA3 : Box2 W3 A 62 (r1, r2) := by rw [← hW3]; exact bA.alloc _
    have bR3 : Box2 W3 (w.heap.size + 1 + 1) 62 (0, 0) := by rw [← hW3]; exact bR2.alloc _
    have hb3 : Below W0.heap.size W0 W3 := by rw [← hW3]; exact balloc hb2 _
    have hs3 : W2.heap.size + 1 = W3.heap.size := by rw [← hW3]; simp
    have hs3' : W2.heap.size < W3.heap.size := by omega
    rw [hW3]
    clear hW3 hb2 bA bR2 e0 e1 e2
    have kQ0 := (hb3.cell (p := ⟨w.heap.size + 1, 0, none⟩) z1).trans kq0
    have kQ1 := (hb3.cell (p := ⟨w.heap.size + 1, 1, none⟩) z1).trans kq1
    have hbw : Below w.heap.size w W3 := hB0.trans (hb3.mono hB0.size)
    have hr3 := HR.out.below hbl hbw
    have HS3 := Lib.hid hs3
    clear hs3 hb3
    refine wpIn_rangeFunc_ownH rfl h1 (gf := 71) (lb := #[.pointer (some ⟨W2.heap.size, 0, none⟩)]) rfl trivial (enters_of Try.func71 (by kernel_rfl) rfl)
      (stretches_stops (n - 1) (by omega) W2.heap.size W3.heap.size b off cap s p l HV.out (by have := hbw.size; omega) [A] (by simp; omega) (by simp; have := hB0.size; omega) (by simp; omega) W3 kS0 kS1 kS2 hs3' (Nat.le_refl _) hr3) kp_t (kp_b (Nat.le_refl _)) (Below.refl _ _) (fun _ => rfl)
      (fun pre W => Box2 W A 62 (accK (a1, a2) (r1, r2) pre) ∧ Kp [A] W3.heap.size W3 W)
      (fun _ _ _ => False)
      (OwnFrom.and (Own.from (box2_own A 62 (fun pre => (accK (a1, a2) (r1, r2) pre))) _) (ownFrom_kp (Nat.le_refl _) (Nat.le_refl _)))
      (fun _ _ _ _ _ hs _ _ => hs)
      ⟨bA3, Kp.refl _ _ _⟩
      (fun x a' W => ∃ Bt Bh, Box2 W Bt 26 x.1.1 ∧ Box2 W Bh 62 x.1.2 ∧ (W3.heap.size ≤ Bt ∧ W3.heap.size ≤ Bh) ∧ a' = { tmps := #[.agg #[(.int .i64 s), (.int .i64 p), .slice (some ⟨b, off, none⟩) l.length cap], .agg #[(.int .i64 a1), (.int .i64 a2)], .pointer (some ⟨w.heap.size, 0, none⟩), .pointer (some ⟨w.heap.size + 1, 0, none⟩), .pointer (some ⟨w.heap.size + 1 + 1, 0, none⟩), .pointer (some ⟨A, 0, none⟩), .pointer (some ⟨Bt, 0, none⟩), .pointer (some ⟨Bh, 0, none⟩), undef, undef, x10, x11, x12, x13, x14, x15, x16, x17, x18, x19, .agg #[(.int .i64 s), (.int .i64 p), .slice (some ⟨b, off, none⟩) l.length cap], .func (.func 71) #[] #[.pointer (some ⟨W2.heap.size, 0, none⟩)], .agg #[(.int .i64 (x.1.1.1)), (.int .i64 (x.1.1.2))], .agg #[(.int .i64 (x.1.2.1)), (.int .i64 (x.1.2.2))], undef, undef, undef, undef, undef, undef, undef, undef, undef, undef, undef, undef, undef, undef, undef], defers := [] })
      (fun x a' _ X Y row hs hg hr => by
        obtain ⟨Bt, Bh, e1, e2, e4, e3⟩ := hs
        exact ⟨Bt, Bh, box2_own Bt _ (fun (_ : Unit) => x.1.1) () X Y row e1 hg (fun r e => (hr r e).2), box2_own Bh _ (fun (_ : Unit) => x.1.2) () X Y row e2 hg (fun r e => (hr r e).2), e4, e3⟩)
      ?assign ?body ?done ?stop
    case assign =>
      rintro ll pre x W K ⟨bA1, hK1⟩ hK
      have hs1 := hK1.but.size
      unfold encS
      gi_wp2
      exact hK _ _ (((KeepsOthers.alloc _ _).from _).trans ((KeepsOthers.alloc _ _).from _)) (((Kp.refl _ _ W).alloc (by omega) _).alloc (by simp; omega) _) ⟨(bA1.alloc _).alloc _, (hK1.alloc (by omega) _).alloc (by simp; omega) _⟩ ⟨_, _, (Box2.new W _ x.1.1).alloc _, Box2.new _ _ x.1.2, by simp; omega, by simp⟩
    case body =>
      rintro ll pre ⟨⟨⟨t1, t2⟩, ⟨g1, g2⟩⟩, hx⟩ a' W hll ⟨r, hr⟩ ⟨bA1, hK1⟩ ⟨Bt, Bh, bt, bh, hBth, rfl⟩ hlt
      obtain ⟨hBt, hBh⟩ := hBth
      have hsW := hK1.but.size
      have hok := okX_iff.1 hx
      obtain ⟨⟨ht0, ht1, ht2⟩, hgk⟩ := hok
      dsimp only at ht0 ht1 ht2 hgk bt bh
      have HS := Lib.hid (accK_snoc (a1, a2) (r1, r2) pre ⟨((t1, t2), (g1, g2)), hx⟩)
      dsimp only at HS
      have hak : okH (accK (a1, a2) (r1, r2) pre) = true := accK_ok hrok pre
      generalize (accK (a1, a2) (r1, r2) pre) = acc at *
      obtain ⟨c1, c2⟩ := acc
      have ka0 := bA1.c0
      have ka1 := bA1.c1
      have ja0 := bA1.f0
      have ja1 := bA1.f1
      have kt0 := bt.c0
      have kt1 := bt.c1
      have kh0 := bh.c0
      have kh1 := bh.c1
      have kQ0 := (hK1.but.cell (p := ⟨w.heap.size + 1, 0, none⟩) (by simp; omega) (by simp; omega)).trans kQ0
      have kQ1 := (hK1.but.cell (p := ⟨w.heap.size + 1, 1, none⟩) (by simp; omega) (by simp; omega)).trans kQ1
      have za := bA1.lt
      have zt := bt.lt
      have zh := bh.lt
      have et : vE 1000000000000 t1 t2 = true := by rw [vE_iff]; omega
      have ea : vE 1000000000000 a1 a2 = true := by rw [vE_iff]; have := hlat.out; omega
      have HB := Lib.hid hK1
      have HBX := Lib.hid bA1
      dsimp only at ka0 ka1 kt0 kt1 kh0 kh1
      clear bt bh hr hK1
      cases hm : rM t1 t2 a1 a2
      · have J : ∀ w, Calls Try.prog 66 #[.agg #[(.int .i64 t1), (.int .i64 t2)], .agg #[(.int .i64 a1), (.int .i64 a2)]] w (Ret w (.tuple #[.agg #[(.int .i64 0), (.int .i64 0)], (.int .i64 4)])) := fun w => by have := Meet_c t1 t2 a1 a2 w; simpa [vMeet, rMeet, et, ea, hm, selI, erv] using this
        have HM := Lib.hid hm
        clear hm et ea
        gi_wp2_with fail
        refine ⟨trivial, ?_⟩
        (try refine ⟨(fun h => by cases h), ?_⟩)
        refine (CallsIn.inRound ll (callsIn_wide.2 (J _))).mono ?_
        rintro e W1 ⟨rfl, hb1⟩
        gi_wp2
        have hbx : Below W.heap.size W (W1.alloc (.cells #[(.int .i64 0), (.int .i64 0)] 26)) := balloc hb1 _
        refine ⟨(keeps_of_below hbx).from _, Kp.below hbx (by omega), ?_, HB.out.trans (Kp.below hbx (by omega))⟩
        rw [HS.out]
        unfold duF
        rw [HM.out]
        exact HBX.out.below hbx
      · have J : ∀ w, Calls Try.prog 66 #[.agg #[(.int .i64 t1), (.int .i64 t2)], .agg #[(.int .i64 a1), (.int .i64 a2)]] w (Ret w (.tuple #[.agg #[(.int .i64 (max t1 a1)), (.int .i64 (min t2 a2))], (.int .i64 0)])) := fun w => by have := Meet_c t1 t2 a1 a2 w; simpa [vMeet, rMeet, et, ea, hm, selI, erv] using this
        have HM := Lib.hid hm
        clear hm et ea
        have JJ := fun w => join_c c1 c2 g1 g2 w hak hgk
        gi_wp2_with fail
        refine ⟨trivial, ?_⟩
        (try refine ⟨(fun h => by cases h), ?_⟩)
        refine (CallsIn.inRound ll (callsIn_wide.2 (J _))).mono ?_
        rintro e W1 ⟨rfl, hb1⟩
        have za1 : A < W1.heap.size := by have := hb1.size; omega
        have bA4 := HBX.out.below hb1
        have kh2 := cell_later hb1 kh0
        have kh3 := cell_later hb1 kh1
        have ka2 : W1.cell? ⟨A, 0, none⟩ = some (.int .i64 c1) := bA4.c0
        have ka3 : W1.cell? ⟨A, 1, none⟩ = some (.int .i64 c2) := bA4.c1
        have zh1 : Bh < W1.heap.size := by have := hb1.size; omega
        have HB1 := Lib.hid hb1
        clear hb1
        gi_wp2_with fail
        refine ⟨trivial, ?_⟩
        (try refine ⟨(fun h => by cases h), ?_⟩)
        refine (CallsIn.inRound ll (callsIn_wide.2 (JJ _))).mono ?_
        rintro e W5 ⟨rfl, hb5⟩
        have hbx : Below W.heap.size W W5 := bstep (balloc HB1.out _) hb5
        have bA5 := HBX.out.below hbx
        have kA0 : W5.cell? ⟨A, 0, none⟩ = some (.int .i64 c1) := bA5.c0
        have kA1 : W5.cell? ⟨A, 1, none⟩ = some (.int .i64 c2) := bA5.c1
        have jA0 := bA5.f0
        have jA1 := bA5.f1
        have HBB := Lib.hid hbx
        have zA5 := bA5.lt
        clear hb5 hbx
        gi_wp2
        refine ⟨(((keeps_of_below HBB.out).from _).trans ((KeepsOthers.setCell _ _ _).from _)).trans ((KeepsOthers.setCell _ _ _).from _), ((Kp.below HBB.out (by omega)).set (p := ⟨A, 0, none⟩) (by simp) _).set (p := ⟨A, 1, none⟩) (by simp) _, ?_, ((HB.out.trans (Kp.below HBB.out (by omega))).set (p := ⟨A, 0, none⟩) (by simp) _).set (p := ⟨A, 1, none⟩) (by simp) _⟩
        rw [HS.out]
        unfold duF
        rw [HM.out]
        exact bA5.set (min c1 g1, max c2 g2)
    case done =>
      rintro D ys W hD rfl ⟨bA1, hK1⟩ hK
      rw [accK_strS HV.out] at bA1
      have HDD : Hid (duT s p l (a1, a2) = duK (a1, a2) (r1, r2) (stK s p l l.length)) := HD
      generalize hdd : duK (a1, a2) (r1, r2) (stK s p l l.length) = dd at *
      obtain ⟨d1, d2⟩ := dd
      have bR4 := bR3.but hK1.but (by omega) (by simp; omega)
      have ka0 : W.cell? ⟨A, 0, none⟩ = some (.int .i64 d1) := bA1.c0
      have ka1 : W.cell? ⟨A, 1, none⟩ = some (.int .i64 d2) := bA1.c1
      have kr0 : W.cell? ⟨w.heap.size + 1 + 1, 0, none⟩ = some (.int .i64 0) := bR4.c0
      have kr1 : W.cell? ⟨w.heap.size + 1 + 1, 1, none⟩ = some (.int .i64 0) := bR4.c1
      have jr0 := bR4.f0
      have jr1 := bR4.f1
      have HB := Lib.hid hK1
      clear hK1 HD hdd
      gi_wp2
      have hK' := ((KeepsOthers.setCell W ⟨w.heap.size + 1 + 1, 0, none⟩ (.int .i64 d1)).trans (KeepsOthers.setCell _ ⟨w.heap.size + 1 + 1, 1, none⟩ (.int .i64 d2))).same D _ hK rfl
      refine ⟨by simp, .inl ⟨_, _, rfl, run_takeDeferred hK', ?_⟩⟩
      have bR5 := (bR4.set (d1, d2)).put (.deferred none) hK' rfl
      have c0 := bR5.c0
      have c1 := bR5.c1
      refine ⟨.agg #[(.int .i64 d1), (.int .i64 d2)], ?_, by rw [HDD.out], ?_⟩
      · simp [results, Try.f43, go_sem, c0, c1]
      · exact (hbw.trans ((((HB.out.but.below (B := w.heap.size) (by have := hbw.size; omega) (by simp; have := hB0.size; omega)).setCell (p := ⟨w.heap.size + 1 + 1, 0, none⟩) (by simp; omega) _).setCell (p := ⟨w.heap.size + 1 + 1, 1, none⟩) (by simp; omega) _))).trans (belowK_b (w := w) (Nat.le_refl _) _ D _ _ (by have := hbw.size; omega) hK' rfl rfl)
    case stop =>
      rintro D c pre W _ _ h _
      exact h.elim
theorem during_c (s p a1 a2 : Int) (b off cap : Nat) (l : List Pr) (w : World) (hv : vaT s p l = true) (h1a : s ≤ a1) (h2a : a1 ≤ a2) (h3a : a2 ≤ laT s p l) (hr : Row w b off l) :
    Calls Try.prog 43 #[.agg #[(.int .i64 s), (.int .i64 p), .slice (some ⟨b, off, none⟩) l.length cap], .agg #[(.int .i64 a1), (.int .i64 a2)]] w (Ret w (.agg #[(.int .i64 ((duT s p l (a1, a2)).1)), (.int .i64 ((duT s p l (a1, a2)).2))])) :=
  callsIn_wide.1 (during_in 6 (Nat.le_refl _) s p a1 a2 b off cap l w hv h1a h2a h3a hr)

end Go.Proofs.Ytemogomligbgiaa.Ti
