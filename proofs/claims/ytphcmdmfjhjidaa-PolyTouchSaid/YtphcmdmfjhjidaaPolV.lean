/- PolV: values. -/
import Derived.Test.YtphcmdmfjhjidaaPolU
import Derived.Test.YtphcmdmfjhjidaaRows
import Derived.WalkKit
import Derived.WalkSpells
import Derived.WalkLawsBesides
import Derived.Lib.Hide
import Derived.Deep.QuietTactic
import Derived.BigQuiet
import Derived.RegionTactic
import Derived.ChangeAlike
import Derived.BigRegion
import Derived.Deep.RegionHeld3
import Derived.Deep.RegionWith
import Derived.Outline
import Derived.IntWalk
import Derived.LoopTactic
namespace Go.Proofs.Ytphcmdmfjhjidaa.Po
open Go.RowKit
set_option linter.unusedSimpArgs false
set_option linter.unusedVariables false

def bentL : List Pt := [(0, 0), (4, 0), (4, 2), (2, 2), (2, 4), (0, 4)]
theorem bent_va : vaL bentL = true := by decide +kernel
theorem bent_in1 : siL (1, 3) bentL = 1 := by decide +kernel
theorem bent_in2 : siL (2, 3) bentL = 0 := by decide +kernel
theorem bent_in3 : siL (3, 3) bentL = -1 := by decide +kernel
theorem bent_ar : arL bentL = 24 := by decide +kernel
theorem tri1_va : vaL [(0, 0), (4, 0), (0, 4)] = true := by decide +kernel
theorem tri2_va : vaL [(0, 0), (4, 0), (1, 4)] = true := by decide +kernel
theorem bent_h1 : hoL bentL [(0, 0), (4, 0), (0, 4)] = true := by decide +kernel
theorem bent_h2 : hoL bentL [(0, 0), (4, 0), (1, 4)] = false := by decide +kernel
theorem bent_d1 : diL bentL (1, 1) 1 = 1 := by decide +kernel
theorem bent_d2 : diL bentL (1, 1) 2 = 0 := by decide +kernel
theorem bent_d3 : diL bentL (4, 4) 1 = -1 := by decide +kernel
theorem bent_d4 : diL bentL (4, 4) 2 = 0 := by decide +kernel
theorem bent_bx : bxL bentL bentL.length = ((0, 4), (0, 4)) := by decide +kernel
theorem rect_rc : rcL 0 4 0 4 = [(0, 0), (4, 0), (4, 4), (0, 4)] := by decide +kernel
theorem rect_v : Sp.vB 0 4 0 4 = true := by decide +kernel
theorem tail_va : vaL [(4, 0), (4, 2), (2, 2), (2, 4), (0, 4)] = false := by decide +kernel
theorem srt_b1 : srt 1 bentL = [(0, 0), (0, 4), (2, 2), (2, 4), (4, 0), (4, 2)] := by
  simp (decide := true) [srt, bentL, List.mergeSort, List.MergeSort.Internal.splitInTwo, List.merge, ltR, cmP, cmp, orI]
theorem srt_b2 : srt (-1) bentL = [(4, 2), (4, 0), (2, 4), (2, 2), (0, 4), (0, 0)] := by
  simp (decide := true) [srt, bentL, List.mergeSort, List.MergeSort.Internal.splitInTwo, List.merge, ltR, cmP, cmp, orI]
theorem srt_t1 : srt 1 [(0, 0), (1, 1), (3, 3)] = [(0, 0), (1, 1), (3, 3)] := by
  simp (decide := true) [srt, List.mergeSort, List.MergeSort.Internal.splitInTwo, List.merge, ltR, cmP, cmp, orI]
theorem srt_t2 : srt (-1) [(0, 0), (1, 1), (3, 3)] = [(3, 3), (1, 1), (0, 0)] := by
  simp (decide := true) [srt, List.mergeSort, List.MergeSort.Internal.splitInTwo, List.merge, ltR, cmP, cmp, orI]
theorem bent_hu : hullL bentL = [(0, 0), (4, 0), (4, 2), (2, 4), (0, 4)] := by
  unfold hullL
  rw [srt_b1, srt_b2]
  decide +kernel
theorem line_hu : hullL [(0, 0), (1, 1), (3, 3)] = [(0, 0), (3, 3)] := by
  unfold hullL
  rw [srt_t1, srt_t2]
  decide +kernel
theorem bent_okL : okL bentL = true := by decide +kernel
theorem line_okL : okL [(0, 0), (1, 1), (3, 3)] = true := by decide +kernel

theorem row_new (w : World) (l : List Pt) (A : Array Value) (t : TypeId) (h : A = (flatP l).toArray) : Row (w.alloc (.cells A t)) w.heap.size 0 l := by
  subst h
  intro i hi
  obtain ⟨e1, e2⟩ := flatP_get l i hi
  rw [Nat.zero_add]
  constructor
  · simpa using e1
  · simpa using e2
theorem bent_c (w : World) : Calls Try.prog 18 #[] w (fun e W' => ∃ g, e = .returned (.slice (some ⟨g, 0, none⟩) 6 6) ∧ Row W' g 0 bentL ∧ Below w.heap.size w W') := by
  go_enter Try.func18, Try.ntmps18
  go_wp2
  go_ret
  exact ⟨_, rfl, row_new w bentL _ _ rfl, (by repeat (first | exact Below.refl _ _ | assumption | refine bstep ?_ (by assumption) | refine Below.drew ?_ | refine balloc ?_ _ | refine Below.setCell ?_ (by first | omega | (simp <;> omega)) _))⟩
theorem row_tail {w : World} {g : Nat} {p : Pt} {l : List Pt} (h : Row w g 0 (p :: l)) : Row w g 2 l := by
  intro i hi
  obtain ⟨h1, h2⟩ := h (i + 1) (by simp; omega)
  rw [show 2 + i * 2 = 0 + (i + 1) * 2 by omega]
  exact ⟨h1, h2⟩
theorem list_ext {l m : List Pt} (h : l.length = m.length) (hg : ∀ i, i < l.length → gp l i = gp m i) : l = m := by
  apply List.ext_getElem h
  intro i h1 h2
  have := hg i h1
  simpa [gp, h1, h2] using this
def Rets (w : World) (b : Prop) [Decidable b] (e : Ending) (W' : World) : Prop := e = .returned (.bool (decide b)) ∧ Below w.heap.size w W'
set_option maxRecDepth 100000 in
set_option maxHeartbeats 3200000 in
theorem Same_c (v u : Value) (l m : List Pt) (w : World) (hp : Pts w v l) (hu : Pts w u m) (h200 : l.length ≤ 200) : Calls Try.prog 15 #[v, u] w (Ret w (.bool (decide (l = m)))) := by
  obtain ⟨⟨p, cap, rfl, hp⟩, hlen⟩ := hp
  obtain ⟨⟨p2, cap2, rfl, hu⟩, hlen2⟩ := hu
  by_cases hlm : l.length = m.length
  · have HP := Lib.hid hp
    have HU := Lib.hid hu
    have HX := Lib.hid hlm
    clear hp hu
    go_enter Try.func15, Try.ntmps15
    go_wp2_with fail
    rw [← HX.out]
    go_wp2_with fail
    go_loopw [5] (fun i wr => Below w.heap.size w wr ∧ ∃ k : Nat, i = (.int .i64 k) ∧ k ≤ l.length ∧ Hid (∀ j, j < k → gp l j = gp m j)) (fun i _ => l.length - (intOf i).toNat)
    case atStart => exact ⟨Below.refl _ _, 0, rfl, by omega, Lib.hid (fun j hj => by omega)⟩
    case round =>
      obtain ⟨hbel, k, rfl, hk, HA⟩ := hrel
      by_cases hlt : k < l.length
      · obtain ⟨b, off, rfl, hr⟩ := HP.out (by omega)
        obtain ⟨b2, off2, rfl, hs⟩ := HU.out (by omega)
        have hl1 := hr.lt (by omega)
        have hl2 := hs.lt (by omega)
        obtain ⟨c1, c2⟩ := hr.below hl1 hbel k hlt
        obtain ⟨d1, d2⟩ := hs.below hl2 hbel k (by omega)
        clear hr hs
        by_cases e1 : (gp l k).1 = (gp m k).1
        · by_cases e2 : (gp l k).2 = (gp m k).2
          · have HE := Lib.hid (show gp l k = gp m k from Prod.ext e1 e2)
            go_wp2_with fail
            refine wp_region_held_drew (S := fun w' => w'.cell? ⟨b, off + k * 2, none⟩ = some (.int .i64 ((gp l k).1)) ∧ w'.cell? ⟨b, off + k * 2 + 1, none⟩ = some (.int .i64 ((gp l k).2)) ∧ w'.cell? ⟨b2, off2 + k * 2, none⟩ = some (.int .i64 ((gp m k).1)) ∧ w'.cell? ⟨b2, off2 + k * 2 + 1, none⟩ = some (.int .i64 ((gp m k).2))) (by kernel_rfl) (by first | (go_keep; done) | ((repeat' apply And.intro) <;> go_simp)) (fun hHeld => ?_)
            refine wpAnyH_take (i := 0) (oi := ⟨some 17, _, _, _, _, _⟩) (v := ?_) rfl (by kernel_rfl) (by kernel_rfl) (by kernel_rfl) (fun _ _ _ h => h) (Or.inl ⟨by rfl, ?_⟩) (by assumption) ?_
            rotate_left
            · intro w hSw; (try dsimp only at hSw); go_simp; try with_reducible rfl
            try simp only [Act.put, List.setIfInBounds_toArray, List.set_cons_zero, List.set_cons_succ]
            refine wpAnyH_take (i := 1) (oi := ⟨some 18, _, _, _, _, _⟩) (v := ?_) rfl (by kernel_rfl) (by kernel_rfl) (by kernel_rfl) (fun _ _ _ h => h) (Or.inl ⟨by rfl, ?_⟩) (by assumption) ?_
            rotate_left
            · intro w hSw; (try dsimp only at hSw); go_simp; try with_reducible rfl
            try simp only [Act.put, List.setIfInBounds_toArray, List.set_cons_zero, List.set_cons_succ]
            refine wpAnyH_take (i := 2) (oi := ⟨some 19, _, _, _, _, _⟩) (v := ?_) rfl (by kernel_rfl) (by kernel_rfl) (by kernel_rfl) (fun _ _ _ h => h) (Or.inl ⟨by rfl, ?_⟩) (by assumption) ?_
            rotate_left
            · intro w hSw; (try dsimp only at hSw); go_simp; try with_reducible rfl
            try simp only [Act.put, List.setIfInBounds_toArray, List.set_cons_zero, List.set_cons_succ]
            refine wpAnyH_take (i := 3) (oi := ⟨some 20, _, _, _, _, _⟩) (v := ?_) rfl (by kernel_rfl) (by kernel_rfl) (by kernel_rfl) (fun _ _ _ h => h) (Or.inl ⟨by rfl, ?_⟩) (by assumption) ?_
            rotate_left
            · intro w hSw; (try dsimp only at hSw); go_simp; try with_reducible rfl
            try simp only [Act.put, List.setIfInBounds_toArray, List.set_cons_zero, List.set_cons_succ]
            refine wpAnyH_take (i := 4) (oi := ⟨some 21, _, _, _, _, _⟩) (v := ?_) rfl (by kernel_rfl) (by kernel_rfl) (by kernel_rfl) (fun _ _ _ h => h) (Or.inl ⟨by rfl, ?_⟩) (by assumption) ?_
            rotate_left
            · intro w hSw; (try dsimp only at hSw); go_simp; try with_reducible rfl
            try simp only [Act.put, List.setIfInBounds_toArray, List.set_cons_zero, List.set_cons_succ]
            refine wpAnyH_take (i := 5) (oi := ⟨some 22, _, _, _, _, _⟩) (v := ?_) rfl (by kernel_rfl) (by kernel_rfl) (by kernel_rfl) (fun _ _ _ h => h) (Or.inl ⟨by rfl, ?_⟩) (by assumption) ?_
            rotate_left
            · intro w hSw; (try dsimp only at hSw); go_simp; try with_reducible rfl
            try simp only [Act.put, List.setIfInBounds_toArray, List.set_cons_zero, List.set_cons_succ]
            refine wpAnyH_take (i := 6) (oi := ⟨some 23, _, _, _, _, _⟩) (v := ?_) rfl (by kernel_rfl) (by kernel_rfl) (by kernel_rfl) (fun _ _ _ h => h) (Or.inl ⟨by rfl, ?_⟩) (by assumption) ?_
            rotate_left
            · intro w hSw; (try dsimp only at hSw); go_simp; try with_reducible rfl
            try simp only [Act.put, List.setIfInBounds_toArray, List.set_cons_zero, List.set_cons_succ]
            refine wpAnyH_take (i := 7) (oi := ⟨some 24, _, _, _, _, _⟩) (v := ?_) rfl (by kernel_rfl) (by kernel_rfl) (by kernel_rfl) (fun _ _ _ h => h) (Or.inl ⟨by rfl, ?_⟩) (by assumption) ?_
            rotate_left
            · intro w hSw; (try dsimp only at hSw); go_simp; try with_reducible rfl
            try simp only [Act.put, List.setIfInBounds_toArray, List.set_cons_zero, List.set_cons_succ]
            refine wpAnyH_take (i := 8) (oi := ⟨some 25, _, _, _, _, _⟩) (v := ?_) rfl (by kernel_rfl) (by kernel_rfl) (by kernel_rfl) (fun _ _ _ h => h) (Or.inl ⟨by rfl, ?_⟩) (by assumption) ?_
            rotate_left
            · intro w hSw; (try dsimp only at hSw); go_simp; try with_reducible rfl
            try simp only [Act.put, List.setIfInBounds_toArray, List.set_cons_zero, List.set_cons_succ]
            refine wpAnyH_done (by kernel_rfl) ?_ _
            go_wp2
            go_roundw
            case rel =>
              refine ⟨(by repeat (first | exact Below.refl _ _ | assumption | refine bstep ?_ (by assumption) | refine Below.drew ?_ | refine balloc ?_ _ | refine Below.setCell ?_ (by first | omega | (simp <;> omega)) _)), k + 1, by simp, by omega, Lib.hid fun j hj => ?_⟩
              rcases Nat.lt_succ_iff_lt_or_eq.1 hj with h | rfl
              · exact HA.out j h
              · exact HE.out
            case measure => simp [intOf]; omega
          · have NE := Lib.hid e2
            go_wp2_with fail
            refine wp_region_held_drew (S := fun w' => w'.cell? ⟨b, off + k * 2, none⟩ = some (.int .i64 ((gp l k).1)) ∧ w'.cell? ⟨b, off + k * 2 + 1, none⟩ = some (.int .i64 ((gp l k).2)) ∧ w'.cell? ⟨b2, off2 + k * 2, none⟩ = some (.int .i64 ((gp m k).1)) ∧ w'.cell? ⟨b2, off2 + k * 2 + 1, none⟩ = some (.int .i64 ((gp m k).2))) (by kernel_rfl) (by first | (go_keep; done) | ((repeat' apply And.intro) <;> go_simp)) (fun hHeld => ?_)
            refine wpAnyH_take (i := 0) (oi := ⟨some 17, _, _, _, _, _⟩) (v := ?_) rfl (by kernel_rfl) (by kernel_rfl) (by kernel_rfl) (fun _ _ _ h => h) (Or.inl ⟨by rfl, ?_⟩) (by assumption) ?_
            rotate_left
            · intro w hSw; (try dsimp only at hSw); go_simp; try with_reducible rfl
            try simp only [Act.put, List.setIfInBounds_toArray, List.set_cons_zero, List.set_cons_succ]
            refine wpAnyH_take (i := 1) (oi := ⟨some 18, _, _, _, _, _⟩) (v := ?_) rfl (by kernel_rfl) (by kernel_rfl) (by kernel_rfl) (fun _ _ _ h => h) (Or.inl ⟨by rfl, ?_⟩) (by assumption) ?_
            rotate_left
            · intro w hSw; (try dsimp only at hSw); go_simp; try with_reducible rfl
            try simp only [Act.put, List.setIfInBounds_toArray, List.set_cons_zero, List.set_cons_succ]
            refine wpAnyH_take (i := 2) (oi := ⟨some 19, _, _, _, _, _⟩) (v := ?_) rfl (by kernel_rfl) (by kernel_rfl) (by kernel_rfl) (fun _ _ _ h => h) (Or.inl ⟨by rfl, ?_⟩) (by assumption) ?_
            rotate_left
            · intro w hSw; (try dsimp only at hSw); go_simp; try with_reducible rfl
            try simp only [Act.put, List.setIfInBounds_toArray, List.set_cons_zero, List.set_cons_succ]
            refine wpAnyH_take (i := 3) (oi := ⟨some 20, _, _, _, _, _⟩) (v := ?_) rfl (by kernel_rfl) (by kernel_rfl) (by kernel_rfl) (fun _ _ _ h => h) (Or.inl ⟨by rfl, ?_⟩) (by assumption) ?_
            rotate_left
            · intro w hSw; (try dsimp only at hSw); go_simp; try with_reducible rfl
            try simp only [Act.put, List.setIfInBounds_toArray, List.set_cons_zero, List.set_cons_succ]
            refine wpAnyH_take (i := 4) (oi := ⟨some 21, _, _, _, _, _⟩) (v := ?_) rfl (by kernel_rfl) (by kernel_rfl) (by kernel_rfl) (fun _ _ _ h => h) (Or.inl ⟨by rfl, ?_⟩) (by assumption) ?_
            rotate_left
            · intro w hSw; (try dsimp only at hSw); go_simp; try with_reducible rfl
            try simp only [Act.put, List.setIfInBounds_toArray, List.set_cons_zero, List.set_cons_succ]
            refine wpAnyH_take (i := 5) (oi := ⟨some 22, _, _, _, _, _⟩) (v := ?_) rfl (by kernel_rfl) (by kernel_rfl) (by kernel_rfl) (fun _ _ _ h => h) (Or.inl ⟨by rfl, ?_⟩) (by assumption) ?_
            rotate_left
            · intro w hSw; (try dsimp only at hSw); go_simp; try with_reducible rfl
            try simp only [Act.put, List.setIfInBounds_toArray, List.set_cons_zero, List.set_cons_succ]
            refine wpAnyH_take (i := 6) (oi := ⟨some 23, _, _, _, _, _⟩) (v := ?_) rfl (by kernel_rfl) (by kernel_rfl) (by kernel_rfl) (fun _ _ _ h => h) (Or.inl ⟨by rfl, ?_⟩) (by assumption) ?_
            rotate_left
            · intro w hSw; (try dsimp only at hSw); go_simp; try with_reducible rfl
            try simp only [Act.put, List.setIfInBounds_toArray, List.set_cons_zero, List.set_cons_succ]
            refine wpAnyH_take (i := 7) (oi := ⟨some 24, _, _, _, _, _⟩) (v := ?_) rfl (by kernel_rfl) (by kernel_rfl) (by kernel_rfl) (fun _ _ _ h => h) (Or.inl ⟨by rfl, ?_⟩) (by assumption) ?_
            rotate_left
            · intro w hSw; (try dsimp only at hSw); go_simp; try with_reducible rfl
            try simp only [Act.put, List.setIfInBounds_toArray, List.set_cons_zero, List.set_cons_succ]
            refine wpAnyH_take (i := 8) (oi := ⟨some 25, _, _, _, _, _⟩) (v := ?_) rfl (by kernel_rfl) (by kernel_rfl) (by kernel_rfl) (fun _ _ _ h => h) (Or.inl ⟨by rfl, ?_⟩) (by assumption) ?_
            rotate_left
            · intro w hSw; (try dsimp only at hSw); go_simp; try with_reducible rfl
            try simp only [Act.put, List.setIfInBounds_toArray, List.set_cons_zero, List.set_cons_succ]
            refine wpAnyH_done (by kernel_rfl) ?_ _
            go_wp2
            go_ret
            have e : l ≠ m := fun e => NE.out (by rw [e])
            exact ⟨by rw [decide_eq_false e]; rfl, (by repeat (first | exact Below.refl _ _ | assumption | refine bstep ?_ (by assumption) | refine Below.drew ?_ | refine balloc ?_ _ | refine Below.setCell ?_ (by first | omega | (simp <;> omega)) _))⟩
        · have NE := Lib.hid e1
          go_wp2_with fail
          refine wp_region_held_drew (S := fun w' => w'.cell? ⟨b, off + k * 2, none⟩ = some (.int .i64 ((gp l k).1)) ∧ w'.cell? ⟨b, off + k * 2 + 1, none⟩ = some (.int .i64 ((gp l k).2)) ∧ w'.cell? ⟨b2, off2 + k * 2, none⟩ = some (.int .i64 ((gp m k).1)) ∧ w'.cell? ⟨b2, off2 + k * 2 + 1, none⟩ = some (.int .i64 ((gp m k).2))) (by kernel_rfl) (by first | (go_keep; done) | ((repeat' apply And.intro) <;> go_simp)) (fun hHeld => ?_)
          refine wpAnyH_take (i := 0) (oi := ⟨some 17, _, _, _, _, _⟩) (v := ?_) rfl (by kernel_rfl) (by kernel_rfl) (by kernel_rfl) (fun _ _ _ h => h) (Or.inl ⟨by rfl, ?_⟩) (by assumption) ?_
          rotate_left
          · intro w hSw; (try dsimp only at hSw); go_simp; try with_reducible rfl
          try simp only [Act.put, List.setIfInBounds_toArray, List.set_cons_zero, List.set_cons_succ]
          refine wpAnyH_take (i := 1) (oi := ⟨some 18, _, _, _, _, _⟩) (v := ?_) rfl (by kernel_rfl) (by kernel_rfl) (by kernel_rfl) (fun _ _ _ h => h) (Or.inl ⟨by rfl, ?_⟩) (by assumption) ?_
          rotate_left
          · intro w hSw; (try dsimp only at hSw); go_simp; try with_reducible rfl
          try simp only [Act.put, List.setIfInBounds_toArray, List.set_cons_zero, List.set_cons_succ]
          refine wpAnyH_take (i := 2) (oi := ⟨some 19, _, _, _, _, _⟩) (v := ?_) rfl (by kernel_rfl) (by kernel_rfl) (by kernel_rfl) (fun _ _ _ h => h) (Or.inl ⟨by rfl, ?_⟩) (by assumption) ?_
          rotate_left
          · intro w hSw; (try dsimp only at hSw); go_simp; try with_reducible rfl
          try simp only [Act.put, List.setIfInBounds_toArray, List.set_cons_zero, List.set_cons_succ]
          refine wpAnyH_take (i := 3) (oi := ⟨some 20, _, _, _, _, _⟩) (v := ?_) rfl (by kernel_rfl) (by kernel_rfl) (by kernel_rfl) (fun _ _ _ h => h) (Or.inl ⟨by rfl, ?_⟩) (by assumption) ?_
          rotate_left
          · intro w hSw; (try dsimp only at hSw); go_simp; try with_reducible rfl
          try simp only [Act.put, List.setIfInBounds_toArray, List.set_cons_zero, List.set_cons_succ]
          refine wpAnyH_take (i := 4) (oi := ⟨some 21, _, _, _, _, _⟩) (v := ?_) rfl (by kernel_rfl) (by kernel_rfl) (by kernel_rfl) (fun _ _ _ h => h) (Or.inl ⟨by rfl, ?_⟩) (by assumption) ?_
          rotate_left
          · intro w hSw; (try dsimp only at hSw); go_simp; try with_reducible rfl
          try simp only [Act.put, List.setIfInBounds_toArray, List.set_cons_zero, List.set_cons_succ]
          refine wpAnyH_take (i := 5) (oi := ⟨some 22, _, _, _, _, _⟩) (v := ?_) rfl (by kernel_rfl) (by kernel_rfl) (by kernel_rfl) (fun _ _ _ h => h) (Or.inl ⟨by rfl, ?_⟩) (by assumption) ?_
          rotate_left
          · intro w hSw; (try dsimp only at hSw); go_simp; try with_reducible rfl
          try simp only [Act.put, List.setIfInBounds_toArray, List.set_cons_zero, List.set_cons_succ]
          refine wpAnyH_take (i := 6) (oi := ⟨some 23, _, _, _, _, _⟩) (v := ?_) rfl (by kernel_rfl) (by kernel_rfl) (by kernel_rfl) (fun _ _ _ h => h) (Or.inl ⟨by rfl, ?_⟩) (by assumption) ?_
          rotate_left
          · intro w hSw; (try dsimp only at hSw); go_simp; try with_reducible rfl
          try simp only [Act.put, List.setIfInBounds_toArray, List.set_cons_zero, List.set_cons_succ]
          refine wpAnyH_take (i := 7) (oi := ⟨some 24, _, _, _, _, _⟩) (v := ?_) rfl (by kernel_rfl) (by kernel_rfl) (by kernel_rfl) (fun _ _ _ h => h) (Or.inl ⟨by rfl, ?_⟩) (by assumption) ?_
          rotate_left
          · intro w hSw; (try dsimp only at hSw); go_simp; try with_reducible rfl
          try simp only [Act.put, List.setIfInBounds_toArray, List.set_cons_zero, List.set_cons_succ]
          refine wpAnyH_take (i := 8) (oi := ⟨some 25, _, _, _, _, _⟩) (v := ?_) rfl (by kernel_rfl) (by kernel_rfl) (by kernel_rfl) (fun _ _ _ h => h) (Or.inl ⟨by rfl, ?_⟩) (by assumption) ?_
          rotate_left
          · intro w hSw; (try dsimp only at hSw); go_simp; try with_reducible rfl
          try simp only [Act.put, List.setIfInBounds_toArray, List.set_cons_zero, List.set_cons_succ]
          refine wpAnyH_done (by kernel_rfl) ?_ _
          go_wp2
          go_ret
          have e : l ≠ m := fun e => NE.out (by rw [e])
          exact ⟨by rw [decide_eq_false e]; rfl, (by repeat (first | exact Below.refl _ _ | assumption | refine bstep ?_ (by assumption) | refine Below.drew ?_ | refine balloc ?_ _ | refine Below.setCell ?_ (by first | omega | (simp <;> omega)) _))⟩
      · go_wp2
        go_ret
        have e : l = m := list_ext HX.out fun i hi => HA.out i (by omega)
        exact ⟨by rw [decide_eq_true e]; rfl, (by repeat (first | exact Below.refl _ _ | assumption | refine bstep ?_ (by assumption) | refine Below.drew ?_ | refine balloc ?_ _ | refine Below.setCell ?_ (by first | omega | (simp <;> omega)) _))⟩
  · go_enter Try.func15, Try.ntmps15
    go_wp2
    go_ret
    have e : l ≠ m := fun e => hlm (by rw [e])
    exact ⟨by rw [decide_eq_false e]; rfl, (by repeat (first | exact Below.refl _ _ | assumption | refine bstep ?_ (by assumption) | refine Below.drew ?_ | refine balloc ?_ _ | refine Below.setCell ?_ (by first | omega | (simp <;> omega)) _))⟩

end Go.Proofs.Ytphcmdmfjhjidaa.Po
