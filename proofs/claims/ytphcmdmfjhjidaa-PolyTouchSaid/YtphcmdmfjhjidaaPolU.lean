/- PolU: hull, Hull. -/
import Derived.Test.YtphcmdmfjhjidaaPolT
import Derived.Test.YtphcmdmfjhjidaaPolO
import Derived.Test.YtphcmdmfjhjidaaPolP
import Derived.Test.YtphcmdmfjhjidaaRows
import Derived.WalkKit
import Derived.WalkSpells
import Derived.WalkLawsBesides
import Derived.Lib.Hide
import Derived.Deep.QuietTactic
import Derived.BigQuiet
import Derived.RegionTactic
import Derived.ChangeAlike
import Derived.BigRegion
import Derived.Deep.RegionHeld3
import Derived.Deep.RegionWith
import Derived.Outline
import Derived.IntWalk
import Derived.LoopTactic
namespace Go.Proofs.Ytphcmdmfjhjidaa.Po
open Go.RowKit
set_option linter.unusedSimpArgs false
set_option linter.unusedVariables false

def hullL (l : List Pt) : List Pt := (chK (srt 1 l) l.length).take ((chK (srt 1 l) l.length).length - 1) ++ (chK (srt (-1) l) l.length).take ((chK (srt (-1) l) l.length).length - 1)
theorem chK_pos (s : List Pt) (k : Nat) (hk : 0 < k) : 0 < (chK s k).length := by
  cases k with
  | zero => omega
  | succ k => simp [chK]
set_option maxRecDepth 100000 in
set_option maxHeartbeats 6400000 in
theorem hull_c (b off cap : Nat) (l : List Pt) (w : World) (hl : okL l = true) (h200 : l.length ≤ 200) (h0l : 0 < l.length) (hc : Row w b off l) :
    Calls Try.prog 35 #[.slice (some ⟨b, off, none⟩) l.length cap] w (OwnPost w (hullL l)) := by
  have hbl := hc.lt h0l
  unfold hullL
  go_enter Try.func35, Try.ntmps35
  go_wp2_with fail
  refine (chain_c 1 b off cap l _ (.inl rfl) hl h200 h0l hc).mono ?_
  rintro e w1 ⟨v1, rfl, hown1, hb1⟩
  have hc1 := hc.below hbl hb1
  have hp1 := chK_pos (srt 1 l) l.length h0l
  have hq1 := chK_len (srt 1 l) l.length
  have hp2 := chK_pos (srt (-1) l) l.length h0l
  have hq2 := chK_len (srt (-1) l) l.length
  generalize chK (srt 1 l) l.length = A at *
  generalize hZ : chK (srt (-1) l) l.length = Z at *
  obtain ⟨a, ha⟩ : ∃ a, A.length = a + 1 := ⟨A.length - 1, by omega⟩
  obtain ⟨z, hz⟩ : ∃ z, Z.length = z + 1 := ⟨Z.length - 1, by omega⟩
  rw [ha] at hown1
  obtain ⟨g1, c1, rfl⟩ := ownsRow_succ hown1
  have HO1 := Lib.hid hown1
  clear hown1
  go_wp2_with fail
  refine (chain_c (-1) b off cap l _ (.inr rfl) hl h200 h0l hc1).mono ?_
  rintro e w2 ⟨v2, rfl, hown2, hb2⟩
  rw [hZ, hz] at hown2
  obtain ⟨g2, c2, rfl⟩ := ownsRow_succ hown2
  have hg1 := (HO1.out.lt g1 rfl).2
  have hg2 := (hown2.lt g2 rfl).2
  have hcp1 := own_cap HO1.out
  have hcp2 := own_cap hown2
  have HO2 := Lib.hid hown2
  clear hown2
  have x1 : IntKind.i64.wrap ((a : Int) + 1 - 1) = (a : Int) := by rw [show (a : Int) + 1 - 1 = (a : Int) by omega]; exact IntWalk.i64_in _ (by omega)
  have x2 : IntKind.i64.wrap ((z : Int) + 1 - 1) = (z : Int) := by rw [show (z : Int) + 1 - 1 = (z : Int) by omega]; exact IntWalk.i64_in _ (by omega)
  have x3 : IntKind.i64.wrap (a : Int) = (a : Int) := IntWalk.i64_in _ (by omega)
  have x4 : IntKind.i64.wrap (z : Int) = (z : Int) := IntWalk.i64_in _ (by omega)
  have y1 : (0 : Int) ≤ (a : Int) := by omega
  have y2 : (0 : Int) ≤ (z : Int) := by omega
  have y3 : (a : Int) ≤ (c1 : Int) := by omega
  have y4 : (z : Int) ≤ (c2 : Int) := by omega
  have y5 : a ≤ c1 := by omega
  have y6 : z ≤ c2 := by omega
  have HC := Lib.hid hc
  clear hc hc1
  go_wp2_with fail
  refine wp_region_held_drew (S := fun w' => True) (by kernel_rfl) (by first | (go_keep; done) | ((repeat' apply And.intro) <;> go_simp)) (fun hHeld => ?_)
  refine wpAnyH_take (i := 0) (oi := ⟨some 9, _, _, _, _, _⟩) (v := ?_) rfl (by kernel_rfl) (by kernel_rfl) (by kernel_rfl) (fun _ _ _ h => h) (Or.inl ⟨by rfl, ?_⟩) (by assumption) ?_
  rotate_left
  · intro w hSw; (try dsimp only at hSw); go_simp; try with_reducible rfl
  try simp only [Act.put, List.setIfInBounds_toArray, List.set_cons_zero, List.set_cons_succ]
  refine wpAnyH_take (i := 1) (oi := ⟨some 10, _, _, _, _, _⟩) (v := ?_) rfl (by kernel_rfl) (by kernel_rfl) (by kernel_rfl) (fun _ _ _ h => h) (Or.inl ⟨by rfl, ?_⟩) (by assumption) ?_
  rotate_left
  · intro w hSw; (try dsimp only at hSw); go_simp; try with_reducible rfl
  try simp only [Act.put, List.setIfInBounds_toArray, List.set_cons_zero, List.set_cons_succ]
  refine wpAnyH_take (i := 2) (oi := ⟨some 11, _, _, _, _, _⟩) (v := ?_) rfl (by kernel_rfl) (by kernel_rfl) (by kernel_rfl) (fun _ _ _ h => h) (Or.inl ⟨by rfl, ?_⟩) (by assumption) ?_
  rotate_left
  · intro w hSw; (try dsimp only at hSw); go_simp; try with_reducible rfl
  try simp only [Act.put, List.setIfInBounds_toArray, List.set_cons_zero, List.set_cons_succ]
  refine wpAnyH_take (i := 3) (oi := ⟨some 12, _, _, _, _, _⟩) (v := ?_) rfl (by kernel_rfl) (by kernel_rfl) (by kernel_rfl) (fun _ _ _ h => h) (Or.inl ⟨by rfl, ?_⟩) (by assumption) ?_
  rotate_left
  · intro w hSw; (try dsimp only at hSw); go_simp; try with_reducible rfl
  try simp only [Act.put, List.setIfInBounds_toArray, List.set_cons_zero, List.set_cons_succ]
  refine wpAnyH_take (i := 4) (oi := ⟨some 13, _, _, _, _, _⟩) (v := ?_) rfl (by kernel_rfl) (by kernel_rfl) (by kernel_rfl) (fun _ _ _ h => h) (Or.inl ⟨by rfl, ?_⟩) (by assumption) ?_
  rotate_left
  · intro w hSw; (try dsimp only at hSw); go_simp; try with_reducible rfl
  try simp only [Act.put, List.setIfInBounds_toArray, List.set_cons_zero, List.set_cons_succ]
  refine wpAnyH_take (i := 5) (oi := ⟨some 14, _, _, _, _, _⟩) (v := ?_) rfl (by kernel_rfl) (by kernel_rfl) (by kernel_rfl) (fun _ _ _ h => h) (Or.inl ⟨by rfl, ?_⟩) (by assumption) ?_
  rotate_left
  · intro w hSw; (try dsimp only at hSw); go_simp; try with_reducible rfl
  try simp only [Act.put, List.setIfInBounds_toArray, List.set_cons_zero, List.set_cons_succ]
  refine wpAnyH_take (i := 6) (oi := ⟨some 15, _, _, _, _, _⟩) (v := ?_) rfl (by kernel_rfl) (by kernel_rfl) (by kernel_rfl) (fun _ _ _ h => h) (Or.inl ⟨by rfl, ?_⟩) (by assumption) ?_
  rotate_left
  · intro w hSw; (try dsimp only at hSw); go_simp; try with_reducible rfl
  try simp only [Act.put, List.setIfInBounds_toArray, List.set_cons_zero, List.set_cons_succ]
  refine wpAnyH_take (i := 7) (oi := ⟨some 16, _, _, _, _, _⟩) (v := ?_) rfl (by kernel_rfl) (by kernel_rfl) (by kernel_rfl) (fun _ _ _ h => h) (Or.inl ⟨by rfl, ?_⟩) (by assumption) ?_
  rotate_left
  · intro w hSw; (try dsimp only at hSw); go_simp; try with_reducible rfl
  try simp only [Act.put, List.setIfInBounds_toArray, List.set_cons_zero, List.set_cons_succ]
  refine wpAnyH_take (i := 8) (oi := ⟨some 17, _, _, _, _, _⟩) (v := ?_) rfl (by kernel_rfl) (by kernel_rfl) (by kernel_rfl) (fun _ _ _ h => h) (Or.inl ⟨by rfl, ?_⟩) (by assumption) ?_
  rotate_left
  · intro w hSw; (try dsimp only at hSw); go_simp; try with_reducible rfl
  try simp only [Act.put, List.setIfInBounds_toArray, List.set_cons_zero, List.set_cons_succ]
  refine wpAnyH_take (i := 9) (oi := ⟨some 18, _, _, _, _, _⟩) (v := ?_) rfl (by kernel_rfl) (by kernel_rfl) (by kernel_rfl) (fun _ _ _ h => h) (Or.inl ⟨by rfl, ?_⟩) (by assumption) ?_
  rotate_left
  · intro w hSw; (try dsimp only at hSw); go_simp; try with_reducible rfl
  try simp only [Act.put, List.setIfInBounds_toArray, List.set_cons_zero, List.set_cons_succ]
  refine wpAnyH_ready (rs := [10]) (by kernel_rfl) (by simp) ?_
  refine AllReadyH.cons (o := ⟨some 19, _, _, _, _, _⟩) rfl (fun KK hKK => ?_) AllReadyH.nil
  go_simp
  (try go_wp2_with fail)
  refine hKK.out _ _ (by first | (go_keep; done) | ((repeat' apply And.intro) <;> go_simp)) (fun hHeld => ?_)
  clear hKK KK
  try simp only [Act.put, List.setIfInBounds_toArray, List.set_cons_zero, List.set_cons_succ]
  refine wpAnyH_ready (rs := [11]) (by kernel_rfl) (by simp) ?_
  refine AllReadyH.cons (o := ⟨some 20, _, _, _, _, _⟩) rfl (fun KK hKK => ?_) AllReadyH.nil
  go_simp
  have lu : (A.take a).length = a := by rw [List.length_take]; omega
  have lz : (Z.take z).length = z := by rw [List.length_take]; omega
  have r1 : Row w1 g1 0 (A.take a) := row_own (own_take HO1.out ha) (by omega)
  have r2 : Row w2 g2 0 (Z.take z) := row_own (own_take HO2.out hz) (by omega)
  refine (concat_c w2.heap.size g1 c1 g2 c2 (A.take a) (Z.take z) (by omega) (by omega) _ (by rw [lu]; go_simp) (by rw [lz]; go_simp) (r1.below hg1 (by repeat (first | exact Below.refl _ _ | assumption | refine bstep ?_ (by assumption) | refine Below.drew ?_ | refine balloc ?_ _ | refine Below.setCell ?_ (by first | omega | (simp <;> omega)) _))) (r2.below hg2 (by repeat (first | exact Below.refl _ _ | assumption | refine bstep ?_ (by assumption) | refine Below.drew ?_ | refine balloc ?_ _ | refine Below.setCell ?_ (by first | omega | (simp <;> omega)) _))) (by have := hb2.size; simp; omega) (by simp; omega)).mono ?_
  rintro e w3 ⟨v3, rfl, hown3, hb3⟩
  have hs1 := hb1.size
  have hs2 := hb2.size
  have hown4 : w3.ownsRow w.heap.size 28 2 v3 (A.take a ++ Z.take z).length (flatP (A.take a ++ Z.take z)) := own_base hown3 (by simp; omega)
  have HO3 := Lib.hid hown4
  clear hown3 hown4 r1 r2
  (try go_wp2_with fail)
  refine hKK.out _ _ (by first | (go_keep; done) | ((repeat' apply And.intro) <;> go_simp)) (fun hHeld => ?_)
  clear hKK KK
  try simp only [Act.put, List.setIfInBounds_toArray, List.set_cons_zero, List.set_cons_succ]
  refine wpAnyH_take (i := 12) (oi := ⟨some 2, _, _, _, _, _⟩) (v := ?_) rfl (by kernel_rfl) (by kernel_rfl) (by kernel_rfl) (fun _ _ _ h => h) (Or.inl ⟨by rfl, ?_⟩) (by assumption) ?_
  rotate_left
  · intro w hSw; (try dsimp only at hSw); go_simp; try with_reducible rfl
  try simp only [Act.put, List.setIfInBounds_toArray, List.set_cons_zero, List.set_cons_succ]
  refine wpAnyH_done (by kernel_rfl) ?_ _
  go_wp2
  go_ret
  refine ⟨v3, rfl, ?_, (by repeat (first | exact Below.refl _ _ | assumption | refine bstep ?_ (by assumption) | refine Below.drew ?_ | refine balloc ?_ _ | refine Below.setCell ?_ (by first | omega | (simp <;> omega)) _))⟩
  simp only [ha, hz, Nat.add_sub_cancel]
  exact HO3.out

theorem hullL_ok {l : List Pt} (hl : okL l = true) : okL (hullL l) = true := by
  have h (r : Int) : okL (srt r l) = true := okL_iff.2 fun p hp => okL_iff.1 hl p ((srt_perm r l).mem_iff.1 hp)
  refine okL_iff.2 fun p hp => ?_
  rcases List.mem_append.1 hp with hp | hp
  · exact okL_iff.1 (chK_ok (h 1) _) p (List.mem_of_mem_take hp)
  · exact okL_iff.1 (chK_ok (h (-1)) _) p (List.mem_of_mem_take hp)


set_option maxRecDepth 100000
set_option maxHeartbeats 3200000
theorem Hull_bad {v : Value} {l : List Pt} {w : World} (hp : Pts w v l) (hbad : l.length = 0 ∨ 200 < l.length ∨ okL l = false) :
    Calls Try.prog 19 #[v] w (fun e W' => e = .returned (.tuple #[.slice none 0 0, (.int .i64 1)]) ∧ Below w.heap.size w W') := by
  obtain ⟨⟨p, cap, rfl, hp⟩, hlen⟩ := hp
  by_cases h0 : l.length = 0
  · have hl0 : l = [] := List.eq_nil_of_length_eq_zero h0
    subst hl0
    clear hp hbad
    go_enter Try.func19, Try.ntmps19
    go_wp2
    go_ret2
    exact ⟨rfl, (by repeat (first | exact Below.refl _ _ | assumption | refine bstep ?_ (by assumption) | refine Below.drew ?_ | refine balloc ?_ _ | refine Below.setCell ?_ (by first | omega | (simp <;> omega)) _))⟩
  · by_cases h200 : 200 < l.length
    · have y4 : l ≠ [] := by intro e; subst e; simp at h0
      have HP := Lib.hid hp
      have HB := Lib.hid hbad
      clear hp hbad
      go_enter Try.func19, Try.ntmps19
      go_wp2
      go_ret2
      exact ⟨rfl, (by repeat (first | exact Below.refl _ _ | assumption | refine bstep ?_ (by assumption) | refine Below.drew ?_ | refine balloc ?_ _ | refine Below.setCell ?_ (by first | omega | (simp <;> omega)) _))⟩
    · have y4 : l ≠ [] := by intro e; subst e; simp at h0
      have hok : okL l = false := by rcases hbad with h | h | h <;> first | exact h | omega
      obtain ⟨b, off, rfl, hr⟩ := hp (by omega)
      have HR := Lib.hid hr
      have HK := Lib.hid hok
      have y5 : l.length ≤ 200 := by omega
      clear hp hr hbad hok
      go_enter Try.func19, Try.ntmps19
      go_wp2_with fail
      refine Calls.mono (allOk_c b off cap l _ y5 (by omega) HR.out) ?_
      rintro e w1 ⟨rfl, hb1⟩
      rw [HK.out]
      go_wp2
      go_ret2
      exact ⟨rfl, (by repeat (first | exact Below.refl _ _ | assumption | refine bstep ?_ (by assumption) | refine Below.drew ?_ | refine balloc ?_ _ | refine Below.setCell ?_ (by first | omega | (simp <;> omega)) _))⟩
def HulPost (w : World) (l : List Pt) (e : Ending) (W' : World) : Prop :=
  (if (hullL l).length < 3 then e = .returned (.tuple #[.slice none 0 0, (.int .i64 4)]) else if 24 < (hullL l).length then e = .returned (.tuple #[.slice none 0 0, (.int .i64 2)])
   else ∃ v, e = .returned (.tuple #[v, (.int .i64 0)]) ∧ Pts W' v (hullL l)) ∧ Below w.heap.size w W'
theorem own_pts {W : World} {base : Nat} {v : Value} {l : List Pt} (h : W.ownsRow base 28 2 v l.length (flatP l)) (hl : l.length ≤ 9223372036854775807) : Pts W v l := by
  by_cases h0 : 0 < l.length
  · obtain ⟨n, hn⟩ : ∃ n, l.length = n + 1 := ⟨l.length - 1, by omega⟩
    have h' := h
    rw [hn] at h'
    obtain ⟨g, c, rfl⟩ := ownsRow_succ h'
    refine ⟨⟨some ⟨g, 0, none⟩, c, by rw [hn], fun _ => ⟨g, 0, rfl, ?_⟩⟩, hl⟩
    exact row_own h' (by omega)
  · obtain ⟨p, c, rfl⟩ := own_form h
    exact ⟨⟨p, c, rfl, fun hh => absurd hh h0⟩, hl⟩
theorem Hull_ok {v : Value} {l : List Pt} {w : World} (hp : Pts w v l) (h0 : l.length ≠ 0) (h200 : l.length ≤ 200) (hok : okL l = true) :
    Calls Try.prog 19 #[v] w (HulPost w l) := by
  obtain ⟨⟨p, cap, rfl, hp⟩, hlen⟩ := hp
  obtain ⟨b, off, rfl, hr⟩ := hp (by omega)
  have y4 : l ≠ [] := by intro e; subst e; simp at h0
  have y5 : ¬ 200 < l.length := by omega
  have e0 : ((l.length : Int) == 0) = false := by rw [beq_eq_false_iff_ne]; omega
  have e1 : decide ((200 : Int) < (l.length : Int)) = false := decide_eq_false (by omega)
  have HR := Lib.hid hr
  have HK := Lib.hid hok
  clear hp hr hok
  go_enter Try.func19, Try.ntmps19
  go_wp2_with fail
  refine Calls.mono (allOk_c b off cap l _ h200 (by omega) HR.out) ?_
  rintro e w1 ⟨rfl, hb1⟩
  rw [HK.out]
  go_wp2_with fail
  refine Calls.mono (hull_c b off cap l _ HK.out h200 (by omega) (HR.out.below (HR.out.lt (by omega)) hb1)) ?_
  rintro e w2 ⟨v2, rfl, hown, hb2⟩
  have hle : (hullL l).length ≤ 400 := by
    have q1 := chK_len (srt 1 l) l.length
    have q2 := chK_len (srt (-1) l) l.length
    simp only [hullL, List.length_append, List.length_take]
    omega
  generalize hH : hullL l = H at *
  obtain ⟨p2, c2, rfl⟩ := own_form hown
  have HO := Lib.hid hown
  have HHH := Lib.hid hH
  clear hown hH
  by_cases k3 : H.length < 3
  · have z1 : (H.length : Int) < 3 := by omega
    go_wp2
    go_ret2
    unfold HulPost
    rw [HHH.out, if_pos k3]
    exact ⟨rfl, (by repeat (first | exact Below.refl _ _ | assumption | refine bstep ?_ (by assumption) | refine Below.drew ?_ | refine balloc ?_ _ | refine Below.setCell ?_ (by first | omega | (simp <;> omega)) _))⟩
  · by_cases k24 : 24 < H.length
    · have z1 : ¬ (H.length : Int) < 3 := by omega
      have z2 : (24 : Int) < (H.length : Int) := by omega
      go_wp2
      go_ret2
      unfold HulPost
      rw [HHH.out, if_neg k3, if_pos k24]
      exact ⟨rfl, (by repeat (first | exact Below.refl _ _ | assumption | refine bstep ?_ (by assumption) | refine Below.drew ?_ | refine balloc ?_ _ | refine Below.setCell ?_ (by first | omega | (simp <;> omega)) _))⟩
    · have z1 : ¬ (H.length : Int) < 3 := by omega
      have z2 : ¬ (24 : Int) < (H.length : Int) := by omega
      go_wp2
      go_ret2
      unfold HulPost
      rw [HHH.out, if_neg k3, if_neg k24]
      exact ⟨⟨_, rfl, own_pts HO.out (by omega)⟩, (by repeat (first | exact Below.refl _ _ | assumption | refine bstep ?_ (by assumption) | refine Below.drew ?_ | refine balloc ?_ _ | refine Below.setCell ?_ (by first | omega | (simp <;> omega)) _))⟩

end Go.Proofs.Ytphcmdmfjhjidaa.Po
