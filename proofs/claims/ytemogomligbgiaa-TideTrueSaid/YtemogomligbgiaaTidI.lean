/- TidI: windows. -/
import Derived.Test.YtemogomligbgiaaTidH
import Derived.RangeFuncNested
import Derived.LoopTactic
import Derived.Deep.DeepCutAuto
import Derived.Deep.QuietTactic
import Derived.RangeFuncBound
import Derived.RangeFuncCalls
import Derived.RangeFuncLeaves
import Derived.Shelf.Abstract
import Derived.Shelf.RegionOpen
import Derived.WalkKit
import Derived.OwnWalkIn
import Derived.TacticsInMore
import Derived.LoopNIn
import Derived.LoopIn
import Derived.Outline
import Derived.IntWalk
import Derived.Lib.Hide
import Derived.StillTailTactics
import Derived.BigRegion
import Derived.Deep.RegionWith
import Derived.RangeFuncBox
import Derived.Maps.AppendAt
namespace Go.Proofs.Ytemogomligbgiaa.Ti
open Go.RowKit Go.Shelf Sp
set_option linter.unusedSimpArgs false
set_option linter.unusedVariables false

attribute [local go_sem] Oper.semAt_some
set_option maxRecDepth 100000 in
set_option maxHeartbeats 8000000 in
theorem windows_in (n : Nat) (hn : 6 ≤ n) (s p need : Int) (b off cap : Nat) (l : List Pr) (w : World) (hv : vaT s p l = true) (hr : Row w b off l) :
    CallsIn Fence.wide n Try.prog 47 #[.agg #[(.int .i64 s), (.int .i64 p), .slice (some ⟨b, off, none⟩) l.length cap], (.int .i64 need)] w (fun e W' => ∃ v, e = .returned v ∧ Spans W' v (wiT s p l need) ∧ Below w.heap.size w W') := by
  have h1 : 1 ≤ n := by omega
  obtain ⟨i0, hi, hz0, hz1, hz2⟩ := info_parts info_s
  obtain ⟨⟨vs1, vs2⟩, ⟨vp1, vp2⟩, ⟨vn1, vn2⟩, ⟨_, hla⟩, vall⟩ := vaT_iff.1 hv
  have hbl := hr.lt (by omega)
  have HI := Lib.hid hi
  have HR := Lib.hid hr
  have HV := Lib.hid hv
  clear hi hr hv vall
  refine callsIn_of_wp_marks Try.func47 rfl trivial ?_ rfl
  simp only [Try.ntmps47, List.size_toArray, List.length_cons, List.length_nil, Nat.reduceAdd, Nat.reduceSub, Array.replicate_succ, Array.replicate_zero, List.push_toArray, List.append_toArray, List.nil_append, List.cons_append]
  gi_wp2_with (refine ⟨trivial, ?_⟩; gi_at_call 65; refine (callsIn_wide.2 (stretches_c _ _ _ _)).mono ?_; rintro e w' ⟨rfl, rfl⟩)
  obtain ⟨W3, hW3⟩ : ∃ W3, ((((w.alloc (.cells #[(.int .i64 s), (.int .i64 p), (.slice (some ⟨b, off, none⟩) l.length cap)] 59)).alloc (.cells #[(.int .i64 need)] 3)).alloc (.cells #[(.slice none 0 0)] 22)).alloc (.cells #[(.int .i64 s), (.int .i64 p), (.slice (some ⟨b, off, none⟩) l.length cap)] 59)) = W3 := ⟨_, rfl⟩
  have kt0 : W3.cell? ⟨w.heap.size, 0, none⟩ = some (.int .i64 s) := by rw [← hW3]; clear hW3; go_simp
  have kt1 : W3.cell? ⟨w.heap.size, 1, none⟩ = some (.int .i64 p) := by rw [← hW3]; clear hW3; go_simp
  have kt2 : W3.cell? ⟨w.heap.size, 2, none⟩ = some (.slice (some ⟨b, off, none⟩) l.length cap) := by rw [← hW3]; clear hW3; go_simp
  have kq0 : W3.cell? ⟨w.heap.size + 1, 0, none⟩ = some (.int .i64 need) := by rw [← hW3]; clear hW3; go_simp
  have ka0 : W3.cell? ⟨w.heap.size + 1 + 1, 0, none⟩ = some (.slice none 0 0) := by rw [← hW3]; clear hW3; go_simp
  have ku0 : W3.cell? ⟨w.heap.size + 1 + 1 + 1, 0, none⟩ = some (.int .i64 s) := by rw [← hW3]; clear hW3; go_simp
  have ku1 : W3.cell? ⟨w.heap.size + 1 + 1 + 1, 1, none⟩ = some (.int .i64 p) := by rw [← hW3]; clear hW3; go_simp
  have ku2 : W3.cell? ⟨w.heap.size + 1 + 1 + 1, 2, none⟩ = some (.slice (some ⟨b, off, none⟩) l.length cap) := by rw [← hW3]; clear hW3; go_simp
  have hB0 : Below w.heap.size w W3 := by rw [← hW3]; clear hW3; exact (by repeat (first | with_reducible exact Below.refl _ _ | with_reducible assumption | with_reducible refine Below.setCell ?_ (by first | omega | (simp <;> omega)) _ | with_reducible refine balloc ?_ _ | with_reducible refine Below.drew ?_ | with_reducible refine bstep ?_ (by with_reducible assumption)))
  have hsz : W3.heap.size = w.heap.size + 4 := by rw [← hW3]; simp
  have bA : Boxed W3 (w.heap.size + 1 + 1) 22 (.slice none 0 0) := by
    rw [← hW3]
    have := (Boxed.new ((w.alloc (.cells #[(.int .i64 s), (.int .i64 p), .slice (some ⟨b, off, none⟩) l.length cap] 59)).alloc (.cells #[(.int .i64 need)] 3)) 22 (.slice none 0 0)).alloc (.cells #[(.int .i64 s), (.int .i64 p), .slice (some ⟨b, off, none⟩) l.length cap] 59)
    simpa only [World.size_alloc] using this
  rw [hW3]
  clear hW3
  have zA : w.heap.size + 1 + 1 < W3.heap.size := by omega
  have zU : w.heap.size + 1 + 1 + 1 < W3.heap.size := by omega
  have hszl : w.heap.size + 4 ≤ W3.heap.size := by omega
  have hr3 := HR.out.below hbl hB0
  have HSZ := Lib.hid hsz
  clear hsz kt0 kt1 kt2 ka0
  refine wpIn_rangeFunc_ownH rfl h1 (gf := 71) (lb := #[.pointer (some ⟨w.heap.size + 1 + 1 + 1, 0, none⟩)]) rfl trivial (enters_of Try.func71 (by kernel_rfl) rfl)
    (stretches_stops (n - 1) (by omega) (w.heap.size + 1 + 1 + 1) W3.heap.size b off cap s p l HV.out (by omega) [w.heap.size + 1 + 1] (by simp; omega) (by simp; omega) (by simp) W3 ku0 ku1 ku2 zU (Nat.le_refl _) hr3) kp_t (kp_b (Nat.le_refl _)) (Below.refl _ _) (fun _ => rfl)
    (fun pre W => (∃ v, Boxed W (w.heap.size + 1 + 1) 22 v ∧ W.ownsRow W3.heap.size 26 2 v (accW need pre).length (flatS (accW need pre)) ∧ True) ∧ Kp [w.heap.size + 1 + 1] W3.heap.size W3 W)
    (fun _ _ _ => False)
    (OwnFrom.and (Own.from (holdsRow_own W3.heap.size (w.heap.size + 1 + 1) 22 26 2 (fun pre => (accW need pre).length) (fun pre => flatS (accW need pre)) (fun _ _ => True)) _) (ownFrom_kp (Nat.le_refl _) (Nat.le_refl _)))
    (fun _ _ _ _ _ hs _ _ => hs)
    ⟨⟨_, bA, World.ownsRow_nil _ _ _ _, trivial⟩, Kp.refl _ _ _⟩
    (fun x a' W => ∃ Bt Bh, Box2 W Bt 26 x.1.1 ∧ Box2 W Bh 62 x.1.2 ∧ (W3.heap.size ≤ Bt ∧ W3.heap.size ≤ Bh) ∧ a' = { tmps := #[.agg #[(.int .i64 s), (.int .i64 p), .slice (some ⟨b, off, none⟩) l.length cap], (.int .i64 need), .pointer (some ⟨w.heap.size, 0, none⟩), .pointer (some ⟨w.heap.size + 1, 0, none⟩), .slice none 0 0, .pointer (some ⟨w.heap.size + 1 + 1, 0, none⟩), .pointer (some ⟨Bt, 0, none⟩), .pointer (some ⟨Bh, 0, none⟩), undef, .agg #[(.int .i64 s), (.int .i64 p), .slice (some ⟨b, off, none⟩) l.length cap], .func (.func 71) #[] #[.pointer (some ⟨w.heap.size + 1 + 1 + 1, 0, none⟩)], .agg #[(.int .i64 (x.1.1.1)), (.int .i64 (x.1.1.2))], .agg #[(.int .i64 (x.1.2.1)), (.int .i64 (x.1.2.2))], undef, undef, undef, undef, undef, undef, undef, undef, undef, undef, undef, undef, undef, undef, undef, undef, undef, undef, undef, undef, undef, undef, undef, undef, undef, undef, undef, undef, undef, undef, undef], defers := [] })
    (fun x a' _ X Y row hs hg hr => by
      obtain ⟨Bt, Bh, e1, e2, e4, e3⟩ := hs
      exact ⟨Bt, Bh, box2_own Bt _ (fun (_ : Unit) => x.1.1) () X Y row e1 hg (fun r e => (hr r e).2), box2_own Bh _ (fun (_ : Unit) => x.1.2) () X Y row e2 hg (fun r e => (hr r e).2), e4, e3⟩)
    ?assign ?body ?done ?stop
  case assign =>
    rintro ll pre x W K ⟨⟨v, bV, hrow, -⟩, hK1⟩ hK
    have hs1 := hK1.but.size
    unfold encS
    gi_wp2
    exact hK _ _ (((KeepsOthers.alloc _ _).from _).trans ((KeepsOthers.alloc _ _).from _)) (((Kp.refl _ _ W).alloc (by omega) _).alloc (by simp; omega) _) ⟨⟨v, (bV.alloc _).alloc _, (hrow.alloc _).alloc _, trivial⟩, (hK1.alloc (by omega) _).alloc (by simp; omega) _⟩ ⟨_, _, (Box2.new W _ x.1.1).alloc _, Box2.new _ _ x.1.2, by simp; omega, by simp⟩
  case body =>
    rintro ll pre ⟨⟨⟨t1, t2⟩, ⟨g1, g2⟩⟩, hx⟩ a' W hll ⟨r, hr⟩ ⟨⟨v, bA1, hrow, -⟩, hK1⟩ ⟨Bt, Bh, bt, bh, hBth, rfl⟩ hlt
    obtain ⟨hBt, hBh⟩ := hBth
    have hsW := hK1.but.size
    have hok := okX_iff.1 hx
    obtain ⟨⟨ht0, ht1, ht2⟩, hgk⟩ := hok
    dsimp only at ht0 ht1 ht2 hgk bt bh
    have HS := Lib.hid (accW_snoc need pre ⟨((t1, t2), (g1, g2)), hx⟩)
    dsimp only at HS
    have hbd : ∀ i, i < (accW need pre).length → 0 ≤ (gt (accW need pre) i).2 ∧ (gt (accW need pre) i).2 ≤ 10000000 := fun i h => accW_bd need pre h
    have hll2 := accW_len need pre
    generalize accW need pre = out at *
    have kA0 := bA1.cell
    have jA0 := bA1.frozen
    have kt0 := bt.c0
    have kt1 := bt.c1
    have kh0 := bh.c0
    have kN := (hK1.but.cell (p := ⟨w.heap.size + 1, 0, none⟩) (by simp; omega) (by simp)).trans kq0
    have zW : w.heap.size + 1 + 1 < W.heap.size := by omega
    have zt := bt.lt
    have HB := Lib.hid hK1
    have HBX := Lib.hid bA1
    have HOW := Lib.hid hrow
    dsimp only at kt0 kt1 kh0
    have hl400 : out.length ≤ 400 := by omega
    clear bt bh hr hK1 bA1 hrow hlt hll2
    by_cases hlow : g1 < need
    · gi_wp2
      exact ⟨(KeepsOthers.refl _).from _, Kp.refl _ _ _, ⟨v, HBX.out, by rw [HS.out]; unfold wiF; rw [if_pos hlow]; exact HOW.out, trivial⟩, HB.out⟩
    · have HNL : Hid (need ≤ g1) := Lib.hid (by omega)
      rcases Nat.eq_zero_or_pos out.length with h0 | h0
      · obtain rfl : out = [] := List.length_eq_zero_iff.1 h0
        obtain ⟨pv, cv, rfl, _, _⟩ := own_form HOW.out
        clear h0 hbd
        simp only [List.length_nil] at *
        gi_wp2_with fail
        have hHeld : (fun w' : World => w'.cell? ⟨w.heap.size + 1 + 1, 0, none⟩ = some (.slice pv 0 cv)) W.drew := (by first | (go_keep; done) | ((repeat' apply And.intro) <;> go_simp))
        refine wpIn_mono (Q := NoPanic _) ?_ (fun e a w h => NoPanic.imp e a w h)
        refine wpIn_region_heldF (S := fun w' => w'.cell? ⟨w.heap.size + 1 + 1, 0, none⟩ = some (.slice pv 0 cv)) (by kernel_rfl) ?_
        refine wpAnyHF_take (i := 0) (oi := ⟨some 20, _, _, _, _, _⟩) (v := ?_) (by kernel_rfl) rfl (by kernel_rfl) (by kernel_rfl) (by kernel_rfl) (fun _ _ _ h => h) (Or.inl ⟨by rfl, ?_⟩) (fun _ => rfl) (by assumption) ?_
        rotate_left
        · intro w hSw; (try dsimp only at hSw); go_simp; try with_reducible rfl
        try simp only [Act.put, List.setIfInBounds_toArray, List.set_cons_zero, List.set_cons_succ]
        refine wpAnyHF_take (i := 1) (oi := ⟨some 21, _, _, _, _, _⟩) (v := ?_) (by kernel_rfl) rfl (by kernel_rfl) (by kernel_rfl) (by kernel_rfl) (fun _ _ _ h => h) (Or.inl ⟨by rfl, ?_⟩) (fun _ => rfl) (by assumption) ?_
        rotate_left
        · intro w hSw; (try dsimp only at hSw); go_simp; try with_reducible rfl
        try simp only [Act.put, List.setIfInBounds_toArray, List.set_cons_zero, List.set_cons_succ]
        refine wpAnyHF_take (i := 2) (oi := ⟨some 22, _, _, _, _, _⟩) (v := ?_) (by kernel_rfl) rfl (by kernel_rfl) (by kernel_rfl) (by kernel_rfl) (fun _ _ _ h => h) (Or.inl ⟨by rfl, ?_⟩) (fun _ => rfl) (by assumption) ?_
        rotate_left
        · intro w hSw; (try dsimp only at hSw); go_simp; try with_reducible rfl
        try simp only [Act.put, List.setIfInBounds_toArray, List.set_cons_zero, List.set_cons_succ]
        refine wpAnyHF_take (i := 3) (oi := ⟨some 23, _, _, _, _, _⟩) (v := undef) (by kernel_rfl) rfl (by kernel_rfl) (by kernel_rfl) (by kernel_rfl) (fun _ _ _ h => h) (Or.inr ⟨by rfl, rfl⟩) (fun _ => rfl) (by assumption) ?_
        try simp only [Act.put, List.setIfInBounds_toArray, List.set_cons_zero, List.set_cons_succ]
        refine wpAnyHF_take (i := 4) (oi := ⟨some 24, _, _, _, _, _⟩) (v := undef) (by kernel_rfl) rfl (by kernel_rfl) (by kernel_rfl) (by kernel_rfl) (fun _ _ _ h => h) (Or.inr ⟨by rfl, rfl⟩) (fun _ => rfl) (by assumption) ?_
        try simp only [Act.put, List.setIfInBounds_toArray, List.set_cons_zero, List.set_cons_succ]
        refine wpAnyHF_take (i := 5) (oi := ⟨some 25, _, _, _, _, _⟩) (v := undef) (by kernel_rfl) rfl (by kernel_rfl) (by kernel_rfl) (by kernel_rfl) (fun _ _ _ h => h) (Or.inr ⟨by rfl, rfl⟩) (fun _ => rfl) (by assumption) ?_
        try simp only [Act.put, List.setIfInBounds_toArray, List.set_cons_zero, List.set_cons_succ]
        refine wpAnyHF_take (i := 6) (oi := ⟨some 26, _, _, _, _, _⟩) (v := undef) (by kernel_rfl) rfl (by kernel_rfl) (by kernel_rfl) (by kernel_rfl) (fun _ _ _ h => h) (Or.inr ⟨by rfl, rfl⟩) (fun _ => rfl) (by assumption) ?_
        try simp only [Act.put, List.setIfInBounds_toArray, List.set_cons_zero, List.set_cons_succ]
        refine wpAnyHF_take (i := 7) (oi := ⟨some 27, _, _, _, _, _⟩) (v := undef) (by kernel_rfl) rfl (by kernel_rfl) (by kernel_rfl) (by kernel_rfl) (fun _ _ _ h => h) (Or.inr ⟨by rfl, rfl⟩) (fun _ => rfl) (by assumption) ?_
        try simp only [Act.put, List.setIfInBounds_toArray, List.set_cons_zero, List.set_cons_succ]
        refine wpAnyHF_take (i := 8) (oi := ⟨some 28, _, _, _, _, _⟩) (v := undef) (by kernel_rfl) rfl (by kernel_rfl) (by kernel_rfl) (by kernel_rfl) (fun _ _ _ h => h) (Or.inr ⟨by rfl, rfl⟩) (fun _ => rfl) (by assumption) ?_
        try simp only [Act.put, List.setIfInBounds_toArray, List.set_cons_zero, List.set_cons_succ]
        refine wpAnyHF_take (i := 9) (oi := ⟨some 29, _, _, _, _, _⟩) (v := undef) (by kernel_rfl) rfl (by kernel_rfl) (by kernel_rfl) (by kernel_rfl) (fun _ _ _ h => h) (Or.inr ⟨by rfl, rfl⟩) (fun _ => rfl) (by assumption) ?_
        try simp only [Act.put, List.setIfInBounds_toArray, List.set_cons_zero, List.set_cons_succ]
        refine wpAnyHF_take (i := 10) (oi := ⟨some 30, _, _, _, _, _⟩) (v := undef) (by kernel_rfl) rfl (by kernel_rfl) (by kernel_rfl) (by kernel_rfl) (fun _ _ _ h => h) (Or.inr ⟨by rfl, rfl⟩) (fun _ => rfl) (by assumption) ?_
        try simp only [Act.put, List.setIfInBounds_toArray, List.set_cons_zero, List.set_cons_succ]
        refine wpAnyHF_take (i := 11) (oi := ⟨some 31, _, _, _, _, _⟩) (v := undef) (by kernel_rfl) rfl (by kernel_rfl) (by kernel_rfl) (by kernel_rfl) (fun _ _ _ h => h) (Or.inr ⟨by rfl, rfl⟩) (fun _ => rfl) (by assumption) ?_
        try simp only [Act.put, List.setIfInBounds_toArray, List.set_cons_zero, List.set_cons_succ]
        refine wpAnyHF_take (i := 12) (oi := ⟨some 32, _, _, _, _, _⟩) (v := ?_) (by kernel_rfl) rfl (by kernel_rfl) (by kernel_rfl) (by kernel_rfl) (fun _ _ _ h => h) (Or.inl ⟨by rfl, ?_⟩) (fun _ => rfl) (by assumption) ?_
        rotate_left
        · intro w hSw; (try dsimp only at hSw); go_simp; try with_reducible rfl
        try simp only [Act.put, List.setIfInBounds_toArray, List.set_cons_zero, List.set_cons_succ]
        refine wpAnyHF_done (by kernel_rfl) (NoPanic.normal ?_) _
        gi_wp2_with (gi_at_builtin; refine wpListIn_append_own _ rfl _ _ 22 rfl W3.heap.size 26 i0 (.agg #[(.int .i64 0), (.int .i64 0)]) 2 16 Try.underlying22 HI.out hz0 hz1 hz2 rfl (by decide) _ _ _ rfl (HOW.out.alloc _) ⟨W.heap.size, 0, none⟩ 1 1 [(.int .i64 t1), (.int .i64 t2)] rfl rfl (two_new _ _ _ _) (by simp [Value.oneCell']) (by unfold maxLen; omega) (by omega) (by simp; omega) ?_; intro v1 w2 hown1 hgrow1 _; obtain ⟨ga, cap1, rfl⟩ := ownsRow_succ hown1; obtain ⟨bA4, bA5, ho5, hko, hkp⟩ := app_all (Wl := W.drew) HBX.out zA HOW.out.drew hsW hown1 hgrow1; have r0 := bA4.cell; have rf := bA4.frozen; have HHO := Lib.hid ho5; have HHK := Lib.hid hko; have HHP := Lib.hid hkp; have HB5 := Lib.hid bA5; clear hown1 hgrow1 bA4 ho5 hko hkp bA5)
        have E1 : accW need (pre ++ [⟨((t1, t2), (g1, g2)), hx⟩]) = [] ++ [(t1, t2)] := by rw [HS.out]; unfold wiF; rw [if_neg (show ¬ g1 < need from by have := HNL.out; omega), if_neg (by simp)]
        refine ⟨(ko_un HHK.out).from _, kp_un HHP.out, ?_, HB.out.trans (kp_un HHP.out)⟩
        rw [E1, List.length_append, flatS_app]
        first | exact ⟨_, HB5.out, HHO.out, trivial⟩ | exact ⟨_, HB5.out, HHO.out⟩
      · obtain ⟨m, hm⟩ : ∃ m, out.length = m + 1 := ⟨out.length - 1, by omega⟩
        have hown := HOW.out
        rw [hm] at hown
        obtain ⟨g, cp, rfl⟩ := ownsRow_succ hown
        have hfl := flatS_length out
        obtain ⟨_, hg2⟩ := flatS_get out m (by omega)
        have ce2 := hown.cellAt (m * 2 + 1) (by omega)
        rw [hg2] at ce2
        have je2 := hown.frozenAt (m * 2 + 1)
        obtain ⟨hb1, hb2⟩ := hbd m (by omega)
        have hgw := (hown.lt g rfl).2
        have hgn := (hown.lt g rfl).1
        have HE : Hid ((gt out m).2 = (gt out m).2) := Lib.hid rfl
        obtain ⟨e2, he2⟩ : ∃ e2, (gt out m).2 = e2 := ⟨_, rfl⟩
        have HE2 := Lib.hid he2
        rw [he2] at ce2 hb1 hb2
        have HM := Lib.hid hm
        have x5 : IntKind.i64.wrap (e2 + 1) = e2 + 1 := IntWalk.i64_in _ (by omega)
        have HO1 := Lib.hid hown
        have y1 : (m : Int) < (m : Int) + 1 := by omega
        clear hg2 hbd he2 hown hfl h0 HE
        gi_wp2_with fail
        have hHeld : (fun w' : World => w'.cell? ⟨w.heap.size + 1 + 1, 0, none⟩ = some (.slice (some ⟨g, 0, none⟩) (m + 1) cp) ∧ w'.cell? ⟨g, m * 2 + 1, none⟩ = some (.int .i64 e2) ∧ w'.cell? ⟨Bt, 0, none⟩ = some (.int .i64 t1)) W.drew := (by first | (go_keep; done) | ((repeat' apply And.intro) <;> go_simp))
        refine wpIn_mono (Q := NoPanic _) ?_ (fun e a w h => NoPanic.imp e a w h)
        refine wpIn_region_heldF (S := fun w' => w'.cell? ⟨w.heap.size + 1 + 1, 0, none⟩ = some (.slice (some ⟨g, 0, none⟩) (m + 1) cp) ∧ w'.cell? ⟨g, m * 2 + 1, none⟩ = some (.int .i64 e2) ∧ w'.cell? ⟨Bt, 0, none⟩ = some (.int .i64 t1)) (by kernel_rfl) ?_
        refine wpAnyHF_take (i := 0) (oi := ⟨some 20, _, _, _, _, _⟩) (v := ?_) (by kernel_rfl) rfl (by kernel_rfl) (by kernel_rfl) (by kernel_rfl) (fun _ _ _ h => h) (Or.inl ⟨by rfl, ?_⟩) (fun _ => rfl) (by assumption) ?_
        rotate_left
        · intro w hSw; (try dsimp only at hSw); go_simp; try with_reducible rfl
        try simp only [Act.put, List.setIfInBounds_toArray, List.set_cons_zero, List.set_cons_succ]
        refine wpAnyHF_take (i := 1) (oi := ⟨some 21, _, _, _, _, _⟩) (v := ?_) (by kernel_rfl) rfl (by kernel_rfl) (by kernel_rfl) (by kernel_rfl) (fun _ _ _ h => h) (Or.inl ⟨by rfl, ?_⟩) (fun _ => rfl) (by assumption) ?_
        rotate_left
        · intro w hSw; (try dsimp only at hSw); go_simp; try with_reducible rfl
        try simp only [Act.put, List.setIfInBounds_toArray, List.set_cons_zero, List.set_cons_succ]
        refine wpAnyHF_take (i := 2) (oi := ⟨some 22, _, _, _, _, _⟩) (v := ?_) (by kernel_rfl) rfl (by kernel_rfl) (by kernel_rfl) (by kernel_rfl) (fun _ _ _ h => h) (Or.inl ⟨by rfl, ?_⟩) (fun _ => rfl) (by assumption) ?_
        rotate_left
        · intro w hSw; (try dsimp only at hSw); go_simp; try with_reducible rfl
        try simp only [Act.put, List.setIfInBounds_toArray, List.set_cons_zero, List.set_cons_succ]
        refine wpAnyHF_take (i := 3) (oi := ⟨some 23, _, _, _, _, _⟩) (v := ?_) (by kernel_rfl) rfl (by kernel_rfl) (by kernel_rfl) (by kernel_rfl) (fun _ _ _ h => h) (Or.inl ⟨by rfl, ?_⟩) (fun _ => rfl) (by assumption) ?_
        rotate_left
        · intro w hSw; (try dsimp only at hSw); go_simp; try with_reducible rfl
        try simp only [Act.put, List.setIfInBounds_toArray, List.set_cons_zero, List.set_cons_succ]
        refine wpAnyHF_take (i := 4) (oi := ⟨some 24, _, _, _, _, _⟩) (v := ?_) (by kernel_rfl) rfl (by kernel_rfl) (by kernel_rfl) (by kernel_rfl) (fun _ _ _ h => h) (Or.inl ⟨by rfl, ?_⟩) (fun _ => rfl) (by assumption) ?_
        rotate_left
        · intro w hSw; (try dsimp only at hSw); go_simp; try with_reducible rfl
        try simp only [Act.put, List.setIfInBounds_toArray, List.set_cons_zero, List.set_cons_succ]
        refine wpAnyHF_take (i := 5) (oi := ⟨some 25, _, _, _, _, _⟩) (v := ?_) (by kernel_rfl) rfl (by kernel_rfl) (by kernel_rfl) (by kernel_rfl) (fun _ _ _ h => h) (Or.inl ⟨by rfl, ?_⟩) (fun _ => rfl) (by assumption) ?_
        rotate_left
        · intro w hSw; (try dsimp only at hSw); go_simp; try with_reducible rfl
        try simp only [Act.put, List.setIfInBounds_toArray, List.set_cons_zero, List.set_cons_succ]
        refine wpAnyHF_take (i := 6) (oi := ⟨some 26, _, _, _, _, _⟩) (v := ?_) (by kernel_rfl) rfl (by kernel_rfl) (by kernel_rfl) (by kernel_rfl) (fun _ _ _ h => h) (Or.inl ⟨by rfl, ?_⟩) (fun _ => rfl) (by assumption) ?_
        rotate_left
        · intro w hSw; (try dsimp only at hSw); go_simp; try with_reducible rfl
        try simp only [Act.put, List.setIfInBounds_toArray, List.set_cons_zero, List.set_cons_succ]
        refine wpAnyHF_take (i := 7) (oi := ⟨some 27, _, _, _, _, _⟩) (v := ?_) (by kernel_rfl) rfl (by kernel_rfl) (by kernel_rfl) (by kernel_rfl) (fun _ _ _ h => h) (Or.inl ⟨by rfl, ?_⟩) (fun _ => rfl) (by assumption) ?_
        rotate_left
        · intro w hSw; (try dsimp only at hSw); go_simp; try with_reducible rfl
        try simp only [Act.put, List.setIfInBounds_toArray, List.set_cons_zero, List.set_cons_succ]
        refine wpAnyHF_take (i := 8) (oi := ⟨some 28, _, _, _, _, _⟩) (v := ?_) (by kernel_rfl) rfl (by kernel_rfl) (by kernel_rfl) (by kernel_rfl) (fun _ _ _ h => h) (Or.inl ⟨by rfl, ?_⟩) (fun _ => rfl) (by assumption) ?_
        rotate_left
        · intro w hSw; (try dsimp only at hSw); go_simp; try with_reducible rfl
        try simp only [Act.put, List.setIfInBounds_toArray, List.set_cons_zero, List.set_cons_succ]
        refine wpAnyHF_take (i := 9) (oi := ⟨some 29, _, _, _, _, _⟩) (v := ?_) (by kernel_rfl) rfl (by kernel_rfl) (by kernel_rfl) (by kernel_rfl) (fun _ _ _ h => h) (Or.inl ⟨by rfl, ?_⟩) (fun _ => rfl) (by assumption) ?_
        rotate_left
        · intro w hSw; (try dsimp only at hSw); go_simp; try with_reducible rfl
        try simp only [Act.put, List.setIfInBounds_toArray, List.set_cons_zero, List.set_cons_succ]
        refine wpAnyHF_take (i := 10) (oi := ⟨some 30, _, _, _, _, _⟩) (v := ?_) (by kernel_rfl) rfl (by kernel_rfl) (by kernel_rfl) (by kernel_rfl) (fun _ _ _ h => h) (Or.inl ⟨by rfl, ?_⟩) (fun _ => rfl) (by assumption) ?_
        rotate_left
        · intro w hSw; (try dsimp only at hSw); go_simp; try with_reducible rfl
        try simp only [Act.put, List.setIfInBounds_toArray, List.set_cons_zero, List.set_cons_succ]
        refine wpAnyHF_take (i := 11) (oi := ⟨some 31, _, _, _, _, _⟩) (v := ?_) (by kernel_rfl) rfl (by kernel_rfl) (by kernel_rfl) (by kernel_rfl) (fun _ _ _ h => h) (Or.inl ⟨by rfl, ?_⟩) (fun _ => rfl) (by assumption) ?_
        rotate_left
        · intro w hSw; (try dsimp only at hSw); go_simp; try with_reducible rfl
        try simp only [Act.put, List.setIfInBounds_toArray, List.set_cons_zero, List.set_cons_succ]
        refine wpAnyHF_take (i := 12) (oi := ⟨some 32, _, _, _, _, _⟩) (v := ?_) (by kernel_rfl) rfl (by kernel_rfl) (by kernel_rfl) (by kernel_rfl) (fun _ _ _ h => h) (Or.inl ⟨by rfl, ?_⟩) (fun _ => rfl) (by assumption) ?_
        rotate_left
        · intro w hSw; (try dsimp only at hSw); go_simp; try with_reducible rfl
        try simp only [Act.put, List.setIfInBounds_toArray, List.set_cons_zero, List.set_cons_succ]
        refine wpAnyHF_done (by kernel_rfl) (NoPanic.normal ?_) _
        by_cases hc : e2 + 1 = t1
        · have HC := Lib.hid hc
          gi_wp2
          obtain ⟨bA4, ho5, hko, hkp⟩ := store_all (j := m * 2 + 1) HBX.out zA HO1.out (.int .i64 t2)
          have E1 : accW need (pre ++ [⟨((t1, t2), (g1, g2)), hx⟩]) = out.set m ((gt out m).1, t2) := by
            rw [HS.out]
            unfold wiF
            have e : out.length - 1 = m := by have := HM.out; omega
            rw [if_neg (show ¬ g1 < need from by have := HNL.out; omega), if_pos ⟨by have := HM.out; omega, by dsimp only; rw [e, HE2.out]; exact HC.out⟩, e]
          refine ⟨(ko_dr hko).from _, kp_dr hkp, ?_, HB.out.trans (kp_dr hkp)⟩
          rw [E1, flatS_set2 (by have := HM.out; omega), List.length_set, HM.out]
          first | exact ⟨_, bx_dr bA4, ho5.drew, trivial⟩ | exact ⟨_, bx_dr bA4, ho5.drew⟩
        · have HC := Lib.hid hc
          gi_wp2_with (gi_at_builtin; refine wpListIn_append_own _ rfl _ _ 22 rfl W3.heap.size 26 i0 (.agg #[(.int .i64 0), (.int .i64 0)]) 2 16 Try.underlying22 HI.out hz0 hz1 hz2 rfl (by decide) _ _ _ rfl (HO1.out.alloc _) ⟨W.heap.size, 0, none⟩ 1 1 [(.int .i64 t1), (.int .i64 t2)] rfl rfl (two_new _ _ _ _) (by simp [Value.oneCell']) (by unfold maxLen; omega) (by omega) (by simp; omega) ?_; intro v1 w2 hown1 hgrow1 _; obtain ⟨ga, cap1, rfl⟩ := ownsRow_succ hown1; obtain ⟨bA4, bA5, ho5, hko, hkp⟩ := app_all (Wl := W.drew) HBX.out zA HO1.out.drew hsW hown1 hgrow1; have r0 := bA4.cell; have rf := bA4.frozen; have HHO := Lib.hid ho5; have HHK := Lib.hid hko; have HHP := Lib.hid hkp; have HB5 := Lib.hid bA5; clear hown1 hgrow1 bA4 ho5 hko hkp bA5)
          have E1 : accW need (pre ++ [⟨((t1, t2), (g1, g2)), hx⟩]) = out ++ [(t1, t2)] := by rw [HS.out]; unfold wiF; rw [if_neg (show ¬ g1 < need from by have := HNL.out; omega), if_neg (fun h => HC.out (by have e : out.length - 1 = m := (by have := HM.out; omega); have h2 := h.2; rw [e, HE2.out] at h2; exact h2))]
          refine ⟨(ko_un HHK.out).from _, kp_un HHP.out, ?_, HB.out.trans (kp_un HHP.out)⟩
          rw [E1, List.length_append, HM.out, flatS_app]
          first | exact ⟨_, HB5.out, HHO.out, trivial⟩ | exact ⟨_, HB5.out, HHO.out⟩
  case done =>
    rintro D ys W hD rfl ⟨⟨v, bA1, hrow, -⟩, hK1⟩ hK
    rw [accW_strS HV.out] at hrow
    obtain ⟨pv, cv, rfl, _, _⟩ := own_form hrow
    have kA0 := bA1.cell
    have HB := Lib.hid hK1
    have HOW := Lib.hid hrow
    have hlw : (wiT s p l need).length ≤ 400 := by have h1 := wiK_len need (strs s p l); have h2 := stK_len s p l l.length; unfold wiT; unfold strs at *; omega
    clear hK1 hrow
    gi_wp2
    refine ⟨by simp, .inl ⟨_, _, rfl, run_takeDeferred hK, ?_⟩⟩
    refine ⟨_, results_tmp rfl _ _ _, _, rfl, own_spans (ownsRow_putObj HOW.out (.deferred none) hK rfl) (by omega), ?_⟩
    exact (hB0.trans (HB.out.but.below (B := w.heap.size) (by omega) (by simp; omega))).trans (belowK_b (w := w) (Nat.le_refl _) _ D _ _ (by omega) hK rfl rfl)
  case stop =>
    rintro D c pre W _ _ h _
    exact h.elim
theorem windows_c (s p need : Int) (b off cap : Nat) (l : List Pr) (w : World) (hv : vaT s p l = true) (hr : Row w b off l) :
    Calls Try.prog 47 #[.agg #[(.int .i64 s), (.int .i64 p), .slice (some ⟨b, off, none⟩) l.length cap], (.int .i64 need)] w (fun e W' => ∃ v, e = .returned v ∧ Spans W' v (wiT s p l need) ∧ Below w.heap.size w W') :=
  callsIn_wide.1 (windows_in 6 (Nat.le_refl _) s p need b off cap l w hv hr)

end Go.Proofs.Ytemogomligbgiaa.Ti
