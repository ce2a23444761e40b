/- L3Inside: PolyInside. -/
import Derived.Test.YtphcmdmfjhjidaaPolW
import Derived.Test.YtphcmdmfjhjidaaGeoK
import Derived.Test.YtphcmdmfjhjidaaRows
import Derived.WalkKit
import Derived.WalkSpells
import Derived.WalkLawsBesides
import Derived.Lib.Hide
import Derived.Deep.QuietTactic
import Derived.BigQuiet
import Derived.RegionTactic
import Derived.ChangeAlike
import Derived.BigRegion
import Derived.Deep.RegionHeld3
import Derived.Deep.RegionWith
import Derived.Outline
import Derived.IntWalk
import Derived.LoopTactic
namespace Go.Proofs.Ytphcmdmfjhjidaa.Po
open Go.RowKit
set_option linter.unusedSimpArgs false
set_option linter.unusedVariables false

def onK (q : Pt) (l : List Pt) (k : Nat) : Bool := (List.range k).any fun i => onP q (gp l i) (nx l i)
def meK (a b : Pt) (l : List Pt) (k : Nat) : Bool := (List.range k).any fun i => meP a b (gp l i) (nx l i)
theorem onK_succ (q : Pt) (l : List Pt) (k : Nat) : onK q l (k + 1) = (onK q l k || onP q (gp l k) (nx l k)) := by simp [onK, List.range_succ]
theorem meK_succ (a b : Pt) (l : List Pt) (k : Nat) : meK a b l (k + 1) = (meK a b l k || meP a b (gp l k) (nx l k)) := by simp [meK, List.range_succ]
theorem In_any (q1 q2 : Int) (v : Value) (l : List Pt) (w : World) (hp : Pts w v l) : Calls Try.prog 10 #[(.agg #[.int .i64 q1, .int .i64 q2]), v] w (fun e W' => ∃ x y : Int, e = .returned (.tuple #[(.int .i64 x), (.int .i64 y)]) ∧ (¬ (ok q1 q2 ∧ vaL l = true) → y = 1) ∧ Below w.heap.size w W') := by
  by_cases h : ok q1 q2 ∧ vaL l = true
  · exact (In_ok q1 q2 v l w hp h.1 h.2).mono fun e W' ⟨he, hb⟩ => ⟨_, _, he, fun hn => absurd h hn, hb⟩
  · exact (In_no q1 q2 v l w hp h).mono fun e W' ⟨he, hb⟩ => ⟨_, _, he, fun _ => rfl, hb⟩
theorem si_cases (q : Pt) (l : List Pt) : siL q l = 1 ∨ siL q l = 0 ∨ siL q l = -1 := by
  unfold siL
  split
  · exact .inr (.inl rfl)
  · split
    · exact .inl rfl
    · exact .inr (.inr rfl)

set_option maxRecDepth 100000 in
set_option maxHeartbeats 6400000 in
theorem inside_bad (w : World) (v : Value) (l : List Pt) (hp : Pts w v l) (a1 a2 b1 b2 : Int) (hbad : ¬ (ok a1 a2 ∧ vaL l = true) ∨ ¬ (ok b1 b2 ∧ vaL l = true)) : Calls Try.prog 4 #[v, (.agg #[.int .i64 a1, .int .i64 a2]), (.agg #[.int .i64 b1, .int .i64 b2])] w (Ret w (.bool true)) := by
  have hp0 := hp
  obtain ⟨⟨p, cap, rfl, -⟩, -⟩ := hp0
  have HP := Lib.hid hp
  have HB := Lib.hid hbad
  clear hp hbad
  go_enter Try.func4, Try.ntmps4
  go_wp2_with fail
  refine Calls.mono (head_c _) ?_
  rintro e w1 ⟨rfl, hb1⟩
  have hB1 : Below w.heap.size w w1 := (by repeat (first | exact Below.refl _ _ | assumption | refine bstep ?_ (by assumption) | refine Below.drew ?_ | refine balloc ?_ _ | refine Below.setCell ?_ (by first | omega | (simp <;> omega)) _))
  obtain ⟨hc1, hf1⟩ := bcell hb1
  (try simp at hc1)
  have g1 := fun o => hc1 w.heap.size o (by omega)
  have g2 := fun o => hc1 (w.heap.size + 1) o (by omega)
  have hs1 := hb1.size
  (try simp at hs1)
  clear hc1 hf1
  go_wp2_with fail
  refine Calls.mono (In_any _ _ _ l _ (HP.out.below hB1)) ?_
  rintro e w2 ⟨x, y, rfl, hy, hb2⟩
  have hB2 : Below w.heap.size w w2 := bstep hB1 hb2
  obtain ⟨hc2, hf2⟩ := bcell hb2
  have g3 := fun o => hc2 (w.heap.size + 1) o (by omega)
  have HY := Lib.hid hy
  clear hc2 hf2 hy
  go_wp2_with fail
  refine Calls.mono (In_any _ _ _ l _ (HP.out.below hB2)) ?_
  rintro e w3 ⟨x', y', rfl, hy', hb3⟩
  have HY' := Lib.hid hy'
  have hor : y = 1 ∨ y' = 1 := HB.out.imp HY.out hy'
  clear hy'
  rcases hor with rfl | rfl
  · go_wp2
    go_ret
    exact ⟨rfl, (by repeat (first | exact Below.refl _ _ | assumption | refine bstep ?_ (by assumption) | refine Below.drew ?_ | refine balloc ?_ _ | refine Below.setCell ?_ (by first | omega | (simp <;> omega)) _))⟩
  · by_cases h0 : y = 0
    · subst h0
      go_wp2
      go_ret
      exact ⟨rfl, (by repeat (first | exact Below.refl _ _ | assumption | refine bstep ?_ (by assumption) | refine Below.drew ?_ | refine balloc ?_ _ | refine Below.setCell ?_ (by first | omega | (simp <;> omega)) _))⟩
    · have h0' : (y == 0) = false := by rw [beq_eq_false_iff_ne]; exact h0
      go_wp2
      go_ret
      exact ⟨rfl, (by repeat (first | exact Below.refl _ _ | assumption | refine bstep ?_ (by assumption) | refine Below.drew ?_ | refine balloc ?_ _ | refine Below.setCell ?_ (by first | omega | (simp <;> omega)) _))⟩
theorem onK_si {q : Pt} {l : List Pt} : onK q l l.length = decide (siL q l = 0) := by
  unfold onK siL
  cases h : (List.range l.length).any fun i => onP q (gp l i) (nx l i)
  · simp
    split <;> omega
  · simp
set_option maxRecDepth 100000 in
set_option maxHeartbeats 12800000 in
theorem inside_ok (w : World) (v : Value) (l : List Pt) (hp : Pts w v l) (a1 a2 b1 b2 : Int) (ha : ok a1 a2) (hb : ok b1 b2) (hv : vaL l = true) : Calls Try.prog 4 #[v, (.agg #[.int .i64 a1, .int .i64 a2]), (.agg #[.int .i64 b1, .int .i64 b2])] w (Ret w (.bool true)) := by
  obtain ⟨a3, a24, aok, -⟩ := vaL_iff.1 hv
  obtain ⟨b, off, cap, rfl, hr⟩ := hp.row (vaL_len hv)
  have hbl := hr.lt (vaL_len hv)
  have HR := Lib.hid hr
  have HP := Lib.hid hp
  have HV := Lib.hid hv
  clear hr hp hv
  have y4 : l ≠ [] := by intro e; subst e; simp at a3
  have e0 : ((l.length : Int) == 0) = false := by rw [beq_eq_false_iff_ne]; omega
  go_enter Try.func4, Try.ntmps4
  go_wp2_with fail
  refine Calls.mono (head_c _) ?_
  rintro e w1 ⟨rfl, hb1⟩
  have hB1 : Below w.heap.size w w1 := (by repeat (first | exact Below.refl _ _ | assumption | refine bstep ?_ (by assumption) | refine Below.drew ?_ | refine balloc ?_ _ | refine Below.setCell ?_ (by first | omega | (simp <;> omega)) _))
  obtain ⟨hc1, hf1⟩ := bcell hb1
  (try simp at hc1)
  have g1 := fun o => hc1 w.heap.size o (by omega)
  have g2 := fun o => hc1 (w.heap.size + 1) o (by omega)
  have hs1 := hb1.size
  (try simp at hs1)
  clear hc1 hf1
  go_wp2_with fail
  refine Calls.mono (In_ok _ _ _ l _ (HP.out.below hB1) ha HV.out) ?_
  rintro e w2 ⟨rfl, hb2⟩
  have hB2 : Below w.heap.size w w2 := bstep hB1 hb2
  obtain ⟨hc2, hf2⟩ := bcell hb2
  have hs2 := hb2.size
  have g3 := fun o => hc2 w.heap.size o (by omega)
  have g4 := fun o => hc2 (w.heap.size + 1) o (by omega)
  clear hc2 hf2 hb2
  go_wp2_with fail
  refine Calls.mono (In_ok _ _ _ l _ (HP.out.below hB2) hb HV.out) ?_
  rintro e w3 ⟨rfl, hb3⟩
  have hB3 : Below w.heap.size w w3 := bstep hB2 hb3
  obtain ⟨hc3, hf3⟩ := bcell hb3
  have hs3 := hb3.size
  have g5 := fun o => hc3 w.heap.size o (by omega)
  have g6 := fun o => hc3 (w.heap.size + 1) o (by omega)
  have G1 : w3.cell? ⟨w.heap.size, 0, none⟩ = some (.int .i64 a1) := by rw [g5, g3, g1]; go_simp
  have G2 : w3.cell? ⟨w.heap.size, 1, none⟩ = some (.int .i64 a2) := by rw [g5, g3, g1]; go_simp
  have G3 : w3.cell? ⟨w.heap.size + 1, 0, none⟩ = some (.int .i64 b1) := by rw [g6, g4, g2]; go_simp
  have G4 : w3.cell? ⟨w.heap.size + 1, 1, none⟩ = some (.int .i64 b2) := by rw [g6, g4, g2]; go_simp
  clear g1 g2 g3 g4 g5 g6 hc3 hf3 hb3 hb1
  have HSA := Lib.hid (onK_si (q := (a1, a2)) (l := l))
  have HGE := Lib.hid (geo_inside (a := (a1, a2)) (b := (b1, b2)) (l := l))
  have hsa := si_cases (a1, a2) l
  have hsb := si_cases (b1, b2) l
  generalize siL (a1, a2) l = X at *
  generalize siL (b1, b2) l = Y at *
  go_wp2_with fail
  go_loopw [7, 12, 13, 46] (fun u o m i wr => ∃ k : Nat, u = (.bool true) ∧ o = (.bool (onK (a1, a2) l k)) ∧ m = (.bool (meK (a1, a2) (b1, b2) l k)) ∧ i = (.int .i64 k) ∧ k ≤ l.length ∧ w3.heap.size ≤ wr.heap.size ∧ Below w3.heap.size w3 wr) (fun _ _ _ i _ => l.length - (intOf i).toNat)
  case atStart => exact ⟨0, rfl, rfl, rfl, rfl, by omega, Nat.le_refl _, Below.refl _ _⟩
  case round =>
    obtain ⟨k, rfl, rfl, rfl, rfl, hk, hsr, hbel⟩ := hrel
    by_cases hlt : k < l.length
    · have hrr := HR.out.below hbl (hB3.trans (hbel.mono (by omega)))
      obtain ⟨c1, c2⟩ := hrr k hlt
      obtain ⟨d1, d2⟩ := hrr ((k + 1) % l.length) (Nat.mod_lt _ (by omega))
      rw [show gp l ((k + 1) % l.length) = nx l k from rfl] at d1 d2
      have G1' := (hbel.cell (p := ⟨w.heap.size, 0, none⟩) (by dsimp only; omega)).trans G1
      have G2' := (hbel.cell (p := ⟨w.heap.size, 1, none⟩) (by dsimp only; omega)).trans G2
      have G3' := (hbel.cell (p := ⟨w.heap.size + 1, 0, none⟩) (by dsimp only; omega)).trans G3
      have G4' := (hbel.cell (p := ⟨w.heap.size + 1, 1, none⟩) (by dsimp only; omega)).trans G4
      have hgo := okL_gp aok k
      have hno := okL_nx aok k
      unfold okP at hgo hno
      have x1 : IntKind.i64.wrap ((k : Int) + 1) = (k : Int) + 1 := IntWalk.i64_in _ (by omega)
      have x2 : ((k : Int) + 1).tmod (l.length : Int) = (((k + 1) % l.length : Nat) : Int) := by
        rw [Int.tmod_eq_emod_of_nonneg (by omega)]; simp
      have hml := Nat.mod_lt (k + 1) (show 0 < l.length by omega)
      have z0 : (l.length == 0) = false := by rw [beq_eq_false_iff_ne]; omega
      generalize hj : (k + 1) % l.length = j at *
      have HJ := Lib.hid hj
      clear hj
      have x4 : IntKind.i64.wrap (j : Int) = (j : Int) := IntWalk.i64_in _ (by omega)
      have hk1 := onK_succ (a1, a2) l k
      have hk2 := meK_succ (a1, a2) (b1, b2) l k
      unfold onP at hk1
      unfold meP at hk2
      have HK1 := Lib.hid hk1
      have HK2 := Lib.hid hk2
      have HRR := Lib.hid hrr
      clear hk1 hk2 hrr G1 G2 G3 G4
      go_wp2_with fail
      refine wp_region_held_drew (S := fun w' => w'.cell? ⟨w.heap.size, 0, none⟩ = some (.int .i64 a1) ∧ w'.cell? ⟨w.heap.size, 1, none⟩ = some (.int .i64 a2) ∧ w'.cell? ⟨w.heap.size + 1, 0, none⟩ = some (.int .i64 b1) ∧ w'.cell? ⟨w.heap.size + 1, 1, none⟩ = some (.int .i64 b2) ∧ w'.cell? ⟨b, off + k * 2, none⟩ = some (.int .i64 ((gp l k).1)) ∧ w'.cell? ⟨b, off + k * 2 + 1, none⟩ = some (.int .i64 ((gp l k).2)) ∧ w'.cell? ⟨b, off + j * 2, none⟩ = some (.int .i64 ((nx l k).1)) ∧ w'.cell? ⟨b, off + j * 2 + 1, none⟩ = some (.int .i64 ((nx l k).2))) (by kernel_rfl) (by first | (go_keep; done) | ((repeat' apply And.intro) <;> go_simp)) (fun hHeld => ?_)
      refine wpAnyH_take (i := 0) (oi := ⟨some 50, _, _, _, _, _⟩) (v := ?_) rfl (by kernel_rfl) (by kernel_rfl) (by kernel_rfl) (fun _ _ _ h => h) (Or.inl ⟨by rfl, ?_⟩) (by assumption) ?_
      rotate_left
      · intro w hSw; (try dsimp only at hSw); go_simp; try with_reducible rfl
      try simp only [Act.put, List.setIfInBounds_toArray, List.set_cons_zero, List.set_cons_succ]
      refine wpAnyH_take (i := 1) (oi := ⟨some 51, _, _, _, _, _⟩) (v := ?_) rfl (by kernel_rfl) (by kernel_rfl) (by kernel_rfl) (fun _ _ _ h => h) (Or.inl ⟨by rfl, ?_⟩) (by assumption) ?_
      rotate_left
      · intro w hSw; (try dsimp only at hSw); go_simp; try with_reducible rfl
      try simp only [Act.put, List.setIfInBounds_toArray, List.set_cons_zero, List.set_cons_succ]
      refine wpAnyH_take (i := 2) (oi := ⟨some 52, _, _, _, _, _⟩) (v := ?_) rfl (by kernel_rfl) (by kernel_rfl) (by kernel_rfl) (fun _ _ _ h => h) (Or.inl ⟨by rfl, ?_⟩) (by assumption) ?_
      rotate_left
      · intro w hSw; (try dsimp only at hSw); go_simp; try with_reducible rfl
      try simp only [Act.put, List.setIfInBounds_toArray, List.set_cons_zero, List.set_cons_succ]
      refine wpAnyH_take (i := 3) (oi := ⟨some 53, _, _, _, _, _⟩) (v := ?_) rfl (by kernel_rfl) (by kernel_rfl) (by kernel_rfl) (fun _ _ _ h => h) (Or.inl ⟨by rfl, ?_⟩) (by assumption) ?_
      rotate_left
      · intro w hSw; (try dsimp only at hSw); go_simp; try with_reducible rfl
      try simp only [Act.put, List.setIfInBounds_toArray, List.set_cons_zero, List.set_cons_succ]
      refine wpAnyH_take (i := 4) (oi := ⟨some 54, _, _, _, _, _⟩) (v := ?_) rfl (by kernel_rfl) (by kernel_rfl) (by kernel_rfl) (fun _ _ _ h => h) (Or.inl ⟨by rfl, ?_⟩) (by assumption) ?_
      rotate_left
      · intro w hSw; (try dsimp only at hSw); go_simp; try with_reducible rfl
      try simp only [Act.put, List.setIfInBounds_toArray, List.set_cons_zero, List.set_cons_succ]
      refine wpAnyH_take (i := 5) (oi := ⟨some 55, _, _, _, _, _⟩) (v := ?_) rfl (by kernel_rfl) (by kernel_rfl) (by kernel_rfl) (fun _ _ _ h => h) (Or.inl ⟨by rfl, ?_⟩) (by assumption) ?_
      rotate_left
      · intro w hSw; (try dsimp only at hSw); go_simp; try with_reducible rfl
      try simp only [Act.put, List.setIfInBounds_toArray, List.set_cons_zero, List.set_cons_succ]
      refine wpAnyH_take (i := 6) (oi := ⟨some 56, _, _, _, _, _⟩) (v := ?_) rfl (by kernel_rfl) (by kernel_rfl) (by kernel_rfl) (fun _ _ _ h => h) (Or.inl ⟨by rfl, ?_⟩) (by assumption) ?_
      rotate_left
      · intro w hSw; (try dsimp only at hSw); go_simp; try with_reducible rfl
      try simp only [Act.put, List.setIfInBounds_toArray, List.set_cons_zero, List.set_cons_succ]
      refine wpAnyH_take (i := 7) (oi := ⟨some 57, _, _, _, _, _⟩) (v := ?_) rfl (by kernel_rfl) (by kernel_rfl) (by kernel_rfl) (fun _ _ _ h => h) (Or.inl ⟨by rfl, ?_⟩) (by assumption) ?_
      rotate_left
      · intro w hSw; (try dsimp only at hSw); go_simp; try with_reducible rfl
      try simp only [Act.put, List.setIfInBounds_toArray, List.set_cons_zero, List.set_cons_succ]
      refine wpAnyH_take (i := 8) (oi := ⟨some 58, _, _, _, _, _⟩) (v := ?_) rfl (by kernel_rfl) (by kernel_rfl) (by kernel_rfl) (fun _ _ _ h => h) (Or.inl ⟨by rfl, ?_⟩) (by assumption) ?_
      rotate_left
      · intro w hSw; (try dsimp only at hSw); go_simp; try with_reducible rfl
      try simp only [Act.put, List.setIfInBounds_toArray, List.set_cons_zero, List.set_cons_succ]
      refine wpAnyH_take (i := 9) (oi := ⟨some 59, _, _, _, _, _⟩) (v := ?_) rfl (by kernel_rfl) (by kernel_rfl) (by kernel_rfl) (fun _ _ _ h => h) (Or.inl ⟨by rfl, ?_⟩) (by assumption) ?_
      rotate_left
      · intro w hSw; (try dsimp only at hSw); go_simp; try with_reducible rfl
      try simp only [Act.put, List.setIfInBounds_toArray, List.set_cons_zero, List.set_cons_succ]
      refine wpAnyH_take (i := 10) (oi := ⟨some 60, _, _, _, _, _⟩) (v := ?_) rfl (by kernel_rfl) (by kernel_rfl) (by kernel_rfl) (fun _ _ _ h => h) (Or.inl ⟨by rfl, ?_⟩) (by assumption) ?_
      rotate_left
      · intro w hSw; (try dsimp only at hSw); go_simp; try with_reducible rfl
      try simp only [Act.put, List.setIfInBounds_toArray, List.set_cons_zero, List.set_cons_succ]
      refine wpAnyH_take (i := 11) (oi := ⟨some 61, _, _, _, _, _⟩) (v := ?_) rfl (by kernel_rfl) (by kernel_rfl) (by kernel_rfl) (fun _ _ _ h => h) (Or.inl ⟨by rfl, ?_⟩) (by assumption) ?_
      rotate_left
      · intro w hSw; (try dsimp only at hSw); go_simp; try with_reducible rfl
      try simp only [Act.put, List.setIfInBounds_toArray, List.set_cons_zero, List.set_cons_succ]
      refine wpAnyH_take (i := 12) (oi := ⟨some 62, _, _, _, _, _⟩) (v := ?_) rfl (by kernel_rfl) (by kernel_rfl) (by kernel_rfl) (fun _ _ _ h => h) (Or.inl ⟨by rfl, ?_⟩) (by assumption) ?_
      rotate_left
      · intro w hSw; (try dsimp only at hSw); go_simp; try with_reducible rfl
      try simp only [Act.put, List.setIfInBounds_toArray, List.set_cons_zero, List.set_cons_succ]
      refine wpAnyH_ready (rs := [13]) (by kernel_rfl) (by simp) ?_
      refine AllReadyH.cons (o := ⟨some 63, _, _, _, _, _⟩) rfl (fun KK hKK => ?_) AllReadyH.nil
      go_simp
      refine Calls.mono (On_ok _ _ _ _ _ _ _ ha hgo hno) ?_
      rintro e w4 ⟨rfl, hb4⟩
      have hD4 : Below wr.heap.size wr w4 := (by repeat (first | exact Below.refl _ _ | assumption | refine bstep ?_ (by assumption) | refine Below.drew ?_ | refine balloc ?_ _ | refine Below.setCell ?_ (by first | omega | (simp <;> omega)) _))
      obtain ⟨hc4, hf4⟩ := bcell hD4
      have j4_0 := fun o => hc4 w.heap.size o (by omega)
      have j4_1 := fun o => hc4 (w.heap.size + 1) o (by omega)
      have j4_2 := fun o => hc4 b o (by omega)
      clear hc4 hf4 hb4
      (try go_wp2_with fail)
      refine hKK.out _ _ (by first | (go_keep; done) | ((repeat' apply And.intro) <;> go_simp)) (fun hHeld => ?_)
      clear hKK KK
      try simp only [Act.put, List.setIfInBounds_toArray, List.set_cons_zero, List.set_cons_succ]
      refine wpAnyH_take (i := 14) (oi := ⟨some 49, _, _, _, _, _⟩) (v := ?_) rfl (by kernel_rfl) (by kernel_rfl) (by kernel_rfl) (fun _ _ _ h => h) (Or.inl ⟨by rfl, ?_⟩) (by assumption) ?_
      rotate_left
      · intro w hSw; (try dsimp only at hSw); go_simp; try with_reducible rfl
      try simp only [Act.put, List.setIfInBounds_toArray, List.set_cons_zero, List.set_cons_succ]
      refine wpAnyH_take (i := 15) (oi := ⟨some 64, _, _, _, _, _⟩) (v := ?_) rfl (by kernel_rfl) (by kernel_rfl) (by kernel_rfl) (fun _ _ _ h => h) (Or.inl ⟨by rfl, ?_⟩) (by assumption) ?_
      rotate_left
      · intro w hSw; (try dsimp only at hSw); go_simp; try with_reducible rfl
      try simp only [Act.put, List.setIfInBounds_toArray, List.set_cons_zero, List.set_cons_succ]
      refine wpAnyH_take (i := 16) (oi := ⟨some 65, _, _, _, _, _⟩) (v := ?_) rfl (by kernel_rfl) (by kernel_rfl) (by kernel_rfl) (fun _ _ _ h => h) (Or.inl ⟨by rfl, ?_⟩) (by assumption) ?_
      rotate_left
      · intro w hSw; (try dsimp only at hSw); go_simp; try with_reducible rfl
      try simp only [Act.put, List.setIfInBounds_toArray, List.set_cons_zero, List.set_cons_succ]
      refine wpAnyH_take (i := 17) (oi := ⟨some 15, _, _, _, _, _⟩) (v := ?_) rfl (by kernel_rfl) (by kernel_rfl) (by kernel_rfl) (fun _ _ _ h => h) (Or.inl ⟨by rfl, ?_⟩) (by assumption) ?_
      rotate_left
      · intro w hSw; (try dsimp only at hSw); go_simp; try with_reducible rfl
      try simp only [Act.put, List.setIfInBounds_toArray, List.set_cons_zero, List.set_cons_succ]
      refine wpAnyH_take (i := 18) (oi := ⟨some 16, _, _, _, _, _⟩) (v := ?_) rfl (by kernel_rfl) (by kernel_rfl) (by kernel_rfl) (fun _ _ _ h => h) (Or.inl ⟨by rfl, ?_⟩) (by assumption) ?_
      rotate_left
      · intro w hSw; (try dsimp only at hSw); go_simp; try with_reducible rfl
      try simp only [Act.put, List.setIfInBounds_toArray, List.set_cons_zero, List.set_cons_succ]
      refine wpAnyH_done (by kernel_rfl) ?_ _
      go_wp2_with fail
      refine wp_region_held_drew (S := fun w' => w'.cell? ⟨w.heap.size, 0, none⟩ = some (.int .i64 a1) ∧ w'.cell? ⟨w.heap.size, 1, none⟩ = some (.int .i64 a2) ∧ w'.cell? ⟨w.heap.size + 1, 0, none⟩ = some (.int .i64 b1) ∧ w'.cell? ⟨w.heap.size + 1, 1, none⟩ = some (.int .i64 b2) ∧ w'.cell? ⟨b, off + k * 2, none⟩ = some (.int .i64 ((gp l k).1)) ∧ w'.cell? ⟨b, off + k * 2 + 1, none⟩ = some (.int .i64 ((gp l k).2)) ∧ w'.cell? ⟨b, off + j * 2, none⟩ = some (.int .i64 ((nx l k).1)) ∧ w'.cell? ⟨b, off + j * 2 + 1, none⟩ = some (.int .i64 ((nx l k).2))) (by kernel_rfl) (by first | (go_keep; done) | ((repeat' apply And.intro) <;> go_simp)) (fun hHeld => ?_)
      refine wpAnyH_take (i := 0) (oi := ⟨some 67, _, _, _, _, _⟩) (v := ?_) rfl (by kernel_rfl) (by kernel_rfl) (by kernel_rfl) (fun _ _ _ h => h) (Or.inl ⟨by rfl, ?_⟩) (by assumption) ?_
      rotate_left
      · intro w hSw; (try dsimp only at hSw); go_simp; try with_reducible rfl
      try simp only [Act.put, List.setIfInBounds_toArray, List.set_cons_zero, List.set_cons_succ]
      refine wpAnyH_take (i := 1) (oi := ⟨some 68, _, _, _, _, _⟩) (v := ?_) rfl (by kernel_rfl) (by kernel_rfl) (by kernel_rfl) (fun _ _ _ h => h) (Or.inl ⟨by rfl, ?_⟩) (by assumption) ?_
      rotate_left
      · intro w hSw; (try dsimp only at hSw); go_simp; try with_reducible rfl
      try simp only [Act.put, List.setIfInBounds_toArray, List.set_cons_zero, List.set_cons_succ]
      refine wpAnyH_take (i := 2) (oi := ⟨some 69, _, _, _, _, _⟩) (v := ?_) rfl (by kernel_rfl) (by kernel_rfl) (by kernel_rfl) (fun _ _ _ h => h) (Or.inl ⟨by rfl, ?_⟩) (by assumption) ?_
      rotate_left
      · intro w hSw; (try dsimp only at hSw); go_simp; try with_reducible rfl
      try simp only [Act.put, List.setIfInBounds_toArray, List.set_cons_zero, List.set_cons_succ]
      refine wpAnyH_take (i := 3) (oi := ⟨some 70, _, _, _, _, _⟩) (v := ?_) rfl (by kernel_rfl) (by kernel_rfl) (by kernel_rfl) (fun _ _ _ h => h) (Or.inl ⟨by rfl, ?_⟩) (by assumption) ?_
      rotate_left
      · intro w hSw; (try dsimp only at hSw); go_simp; try with_reducible rfl
      try simp only [Act.put, List.setIfInBounds_toArray, List.set_cons_zero, List.set_cons_succ]
      refine wpAnyH_take (i := 4) (oi := ⟨some 71, _, _, _, _, _⟩) (v := ?_) rfl (by kernel_rfl) (by kernel_rfl) (by kernel_rfl) (fun _ _ _ h => h) (Or.inl ⟨by rfl, ?_⟩) (by assumption) ?_
      rotate_left
      · intro w hSw; (try dsimp only at hSw); go_simp; try with_reducible rfl
      try simp only [Act.put, List.setIfInBounds_toArray, List.set_cons_zero, List.set_cons_succ]
      refine wpAnyH_take (i := 5) (oi := ⟨some 72, _, _, _, _, _⟩) (v := ?_) rfl (by kernel_rfl) (by kernel_rfl) (by kernel_rfl) (fun _ _ _ h => h) (Or.inl ⟨by rfl, ?_⟩) (by assumption) ?_
      rotate_left
      · intro w hSw; (try dsimp only at hSw); go_simp; try with_reducible rfl
      try simp only [Act.put, List.setIfInBounds_toArray, List.set_cons_zero, List.set_cons_succ]
      refine wpAnyH_take (i := 6) (oi := ⟨some 73, _, _, _, _, _⟩) (v := ?_) rfl (by kernel_rfl) (by kernel_rfl) (by kernel_rfl) (fun _ _ _ h => h) (Or.inl ⟨by rfl, ?_⟩) (by assumption) ?_
      rotate_left
      · intro w hSw; (try dsimp only at hSw); go_simp; try with_reducible rfl
      try simp only [Act.put, List.setIfInBounds_toArray, List.set_cons_zero, List.set_cons_succ]
      refine wpAnyH_take (i := 7) (oi := ⟨some 74, _, _, _, _, _⟩) (v := ?_) rfl (by kernel_rfl) (by kernel_rfl) (by kernel_rfl) (fun _ _ _ h => h) (Or.inl ⟨by rfl, ?_⟩) (by assumption) ?_
      rotate_left
      · intro w hSw; (try dsimp only at hSw); go_simp; try with_reducible rfl
      try simp only [Act.put, List.setIfInBounds_toArray, List.set_cons_zero, List.set_cons_succ]
      refine wpAnyH_take (i := 8) (oi := ⟨some 75, _, _, _, _, _⟩) (v := ?_) rfl (by kernel_rfl) (by kernel_rfl) (by kernel_rfl) (fun _ _ _ h => h) (Or.inl ⟨by rfl, ?_⟩) (by assumption) ?_
      rotate_left
      · intro w hSw; (try dsimp only at hSw); go_simp; try with_reducible rfl
      try simp only [Act.put, List.setIfInBounds_toArray, List.set_cons_zero, List.set_cons_succ]
      refine wpAnyH_take (i := 9) (oi := ⟨some 76, _, _, _, _, _⟩) (v := ?_) rfl (by kernel_rfl) (by kernel_rfl) (by kernel_rfl) (fun _ _ _ h => h) (Or.inl ⟨by rfl, ?_⟩) (by assumption) ?_
      rotate_left
      · intro w hSw; (try dsimp only at hSw); go_simp; try with_reducible rfl
      try simp only [Act.put, List.setIfInBounds_toArray, List.set_cons_zero, List.set_cons_succ]
      refine wpAnyH_take (i := 10) (oi := ⟨some 77, _, _, _, _, _⟩) (v := ?_) rfl (by kernel_rfl) (by kernel_rfl) (by kernel_rfl) (fun _ _ _ h => h) (Or.inl ⟨by rfl, ?_⟩) (by assumption) ?_
      rotate_left
      · intro w hSw; (try dsimp only at hSw); go_simp; try with_reducible rfl
      try simp only [Act.put, List.setIfInBounds_toArray, List.set_cons_zero, List.set_cons_succ]
      refine wpAnyH_take (i := 11) (oi := ⟨some 78, _, _, _, _, _⟩) (v := ?_) rfl (by kernel_rfl) (by kernel_rfl) (by kernel_rfl) (fun _ _ _ h => h) (Or.inl ⟨by rfl, ?_⟩) (by assumption) ?_
      rotate_left
      · intro w hSw; (try dsimp only at hSw); go_simp; try with_reducible rfl
      try simp only [Act.put, List.setIfInBounds_toArray, List.set_cons_zero, List.set_cons_succ]
      refine wpAnyH_take (i := 12) (oi := ⟨some 79, _, _, _, _, _⟩) (v := ?_) rfl (by kernel_rfl) (by kernel_rfl) (by kernel_rfl) (fun _ _ _ h => h) (Or.inl ⟨by rfl, ?_⟩) (by assumption) ?_
      rotate_left
      · intro w hSw; (try dsimp only at hSw); go_simp; try with_reducible rfl
      try simp only [Act.put, List.setIfInBounds_toArray, List.set_cons_zero, List.set_cons_succ]
      refine wpAnyH_take (i := 13) (oi := ⟨some 80, _, _, _, _, _⟩) (v := ?_) rfl (by kernel_rfl) (by kernel_rfl) (by kernel_rfl) (fun _ _ _ h => h) (Or.inl ⟨by rfl, ?_⟩) (by assumption) ?_
      rotate_left
      · intro w hSw; (try dsimp only at hSw); go_simp; try with_reducible rfl
      try simp only [Act.put, List.setIfInBounds_toArray, List.set_cons_zero, List.set_cons_succ]
      refine wpAnyH_ready (rs := [14]) (by kernel_rfl) (by simp) ?_
      refine AllReadyH.cons (o := ⟨some 81, _, _, _, _, _⟩) rfl (fun KK hKK => ?_) AllReadyH.nil
      go_simp
      refine Calls.mono (Meet_ok _ _ _ _ _ _ _ _ _ ha hb hgo hno) ?_
      rintro e w5 ⟨rfl, hb5⟩
      have hD5 : Below wr.heap.size wr w5 := (by repeat (first | exact Below.refl _ _ | assumption | refine bstep ?_ (by assumption) | refine Below.drew ?_ | refine balloc ?_ _ | refine Below.setCell ?_ (by first | omega | (simp <;> omega)) _))
      obtain ⟨hc5, hf5⟩ := bcell hD5
      have j5_0 := fun o => hc5 w.heap.size o (by omega)
      have j5_1 := fun o => hc5 (w.heap.size + 1) o (by omega)
      have j5_2 := fun o => hc5 b o (by omega)
      clear hc5 hf5 hb5
      (try go_wp2_with fail)
      refine hKK.out _ _ (by first | (go_keep; done) | ((repeat' apply And.intro) <;> go_simp)) (fun hHeld => ?_)
      clear hKK KK
      try simp only [Act.put, List.setIfInBounds_toArray, List.set_cons_zero, List.set_cons_succ]
      refine wpAnyH_take (i := 15) (oi := ⟨some 66, _, _, _, _, _⟩) (v := ?_) rfl (by kernel_rfl) (by kernel_rfl) (by kernel_rfl) (fun _ _ _ h => h) (Or.inl ⟨by rfl, ?_⟩) (by assumption) ?_
      rotate_left
      · intro w hSw; (try dsimp only at hSw); go_simp; try with_reducible rfl
      try simp only [Act.put, List.setIfInBounds_toArray, List.set_cons_zero, List.set_cons_succ]
      refine wpAnyH_take (i := 16) (oi := ⟨some 82, _, _, _, _, _⟩) (v := ?_) rfl (by kernel_rfl) (by kernel_rfl) (by kernel_rfl) (fun _ _ _ h => h) (Or.inl ⟨by rfl, ?_⟩) (by assumption) ?_
      rotate_left
      · intro w hSw; (try dsimp only at hSw); go_simp; try with_reducible rfl
      try simp only [Act.put, List.setIfInBounds_toArray, List.set_cons_zero, List.set_cons_succ]
      refine wpAnyH_take (i := 17) (oi := ⟨some 83, _, _, _, _, _⟩) (v := ?_) rfl (by kernel_rfl) (by kernel_rfl) (by kernel_rfl) (fun _ _ _ h => h) (Or.inl ⟨by rfl, ?_⟩) (by assumption) ?_
      rotate_left
      · intro w hSw; (try dsimp only at hSw); go_simp; try with_reducible rfl
      try simp only [Act.put, List.setIfInBounds_toArray, List.set_cons_zero, List.set_cons_succ]
      refine wpAnyH_take (i := 18) (oi := ⟨some 17, _, _, _, _, _⟩) (v := ?_) rfl (by kernel_rfl) (by kernel_rfl) (by kernel_rfl) (fun _ _ _ h => h) (Or.inl ⟨by rfl, ?_⟩) (by assumption) ?_
      rotate_left
      · intro w hSw; (try dsimp only at hSw); go_simp; try with_reducible rfl
      try simp only [Act.put, List.setIfInBounds_toArray, List.set_cons_zero, List.set_cons_succ]
      refine wpAnyH_take (i := 19) (oi := ⟨some 18, _, _, _, _, _⟩) (v := ?_) rfl (by kernel_rfl) (by kernel_rfl) (by kernel_rfl) (fun _ _ _ h => h) (Or.inl ⟨by rfl, ?_⟩) (by assumption) ?_
      rotate_left
      · intro w hSw; (try dsimp only at hSw); go_simp; try with_reducible rfl
      try simp only [Act.put, List.setIfInBounds_toArray, List.set_cons_zero, List.set_cons_succ]
      refine wpAnyH_done (by kernel_rfl) ?_ _
      cases hO : onK (a1, a2) l k <;> cases hM : meK (a1, a2) (b1, b2) l k
      all_goals
        have HOO := Lib.hid hO
        have HMM := Lib.hid hM
        clear hO hM
        go_wp2
        go_roundw
        case rel =>
          refine ⟨k + 1, rfl, ?_, ?_, by simp, by omega, by have := hD4.size; have := hD5.size; omega, (by repeat (first | exact Below.refl _ _ | assumption | refine bstep ?_ (by assumption) | refine Below.drew ?_ | refine balloc ?_ _ | refine Below.setCell ?_ (by first | omega | (simp <;> omega)) _))⟩
          · rw [HK1.out, HOO.out]
            simp
          · rw [HK2.out, HMM.out]
            simp
        case measure => simp [intOf]; omega
    · obtain rfl : k = l.length := by omega
      have hO := HSA.out
      have hM : X * Y = -1 → meK (a1, a2) (b1, b2) l l.length = true := HGE.out
      generalize onK (a1, a2) l l.length = O at *
      generalize meK (a1, a2) (b1, b2) l l.length = M at *
      subst hO
      clear HSA HGE
      rcases hsa with rfl | rfl | rfl <;> rcases hsb with rfl | rfl | rfl
      all_goals (first | (simp at hM; obtain rfl := hM) | skip)
      all_goals ((try clear hM); go_wp2; go_ret; exact ⟨rfl, (by repeat (first | exact Below.refl _ _ | assumption | refine bstep ?_ (by assumption) | refine Below.drew ?_ | refine balloc ?_ _ | refine Below.setCell ?_ (by first | omega | (simp <;> omega)) _))⟩)
theorem inside_c (w : World) (v : Value) (l : List Pt) (hp : Pts w v l) (a1 a2 b1 b2 : Int) : Calls Try.prog 4 #[v, (.agg #[.int .i64 a1, .int .i64 a2]), (.agg #[.int .i64 b1, .int .i64 b2])] w (Ret w (.bool true)) := by
  by_cases h1 : ok a1 a2 ∧ vaL l = true
  · by_cases h2 : ok b1 b2 ∧ vaL l = true
    · exact inside_ok w v l hp a1 a2 b1 b2 h1.1 h2.1 h1.2
    · exact inside_bad w v l hp a1 a2 b1 b2 (.inr h2)
  · exact inside_bad w v l hp a1 a2 b1 b2 (.inl h1)

end Go.Proofs.Ytphcmdmfjhjidaa.Po
