/- SecTn: the turns of two lights. -/
import Derived.Test.YtpadkmlckmopfaaSecU
import Derived.Test.YtpadkmlckmopfaaSecZ
import Derived.Test.YtpadkmlckmopfaaRows
import Derived.WalkKit
import Derived.WalkSpells
import Derived.WalkLawsBesides
import Derived.Lib.Hide
import Derived.Deep.QuietTactic
import Derived.BigQuiet
import Derived.RegionTactic
import Derived.ChangeAlike
import Derived.BigRegion
import Derived.Deep.RegionHeld3
import Derived.Deep.RegionWith
import Derived.Outline
import Derived.IntWalk
import Derived.Deep.DeepCutAuto
import Derived.LoopTactic
import Derived.OwnWalk
import Derived.Laws.OwnMore
import Derived.StillTailTactics
import Derived.RangeFuncNested
namespace Go.Proofs.Ytpadkmlckmopfaa.Se
open Go.RowKit
set_option linter.unusedSimpArgs false
set_option linter.unusedVariables false

/-- The cells of turns. -/
def flT (l : List V) : List Value := l.flatMap fun p => [(.int .i64 (p.1)), (.int .i64 (p.2))]
theorem flT_app (l m : List V) : flT (l ++ m) = flT l ++ flT m := by simp [flT]
theorem flT_length (l : List V) : (flT l).length = l.length * 2 := by
  induction l with
  | nil => rfl
  | cons x l ih => simp only [flT, List.flatMap_cons, List.length_append, List.length_cons, List.length_nil] at *; omega
theorem flT_get (l : List V) (i : Nat) (hi : i < l.length) : (flT l)[i * 2]? = some (.int .i64 ((gv l i).1)) ∧ (flT l)[i * 2 + 1]? = some (.int .i64 ((gv l i).2)) := by
  induction l generalizing i with
  | nil => simp at hi
  | cons x l ih =>
    cases i with
    | zero => simp [flT, gv]
    | succ i =>
      have h := ih i (by simpa using hi)
      have e : flT (x :: l) = (.int .i64 (x.1)) :: (.int .i64 (x.2)) :: flT l := rfl
      rw [e, show (i + 1) * 2 = i * 2 + 1 + 1 by omega, show i * 2 + 1 + 1 + 1 = (i * 2 + 1) + 1 + 1 by omega]
      simpa [gv] using h
theorem info_pT : (Try.prog.info? 24).map (fun i => (i.zero, i.size, i.bytes)) = some (some (.agg #[(.int .i64 0), (.int .i64 0)]), 2, 16) := by kernel_rfl
theorem info_partsT {i : Option TypeInfo} {z : Value} {n b : Nat} (h : i.map (fun i => (i.zero, i.size, i.bytes)) = some (some z, n, b)) : ∃ j, i = some j ∧ j.zero = some z ∧ j.size = n ∧ j.bytes = b := by
  obtain ⟨j, hj, hh⟩ := Option.map_eq_some_iff.1 h
  simp only [Prod.mk.injEq] at hh
  exact ⟨j, hj, hh.1, hh.2.1, hh.2.2⟩
theorem four_new (w : World) (x y z u : Value) (t : TypeId) : ∀ j v, [x, y, z, u][j]? = some v → (w.alloc (.cells #[x, y, z, u] t)).cell? ((⟨w.heap.size, 0, none⟩ : Addr).add j) = some v := by
  intro j v h
  match j, h with
  | 0, h => simp at h; subst h; simp [Addr.add]
  | 1, h => simp at h; subst h; simp [Addr.add]
  | 2, h => simp at h; subst h; simp [Addr.add]
  | 3, h => simp at h; subst h; simp [Addr.add]
theorem twoT_new (w : World) (x y : Value) (t : TypeId) : ∀ j v, [x, y][j]? = some v → (w.alloc (.cells #[x, y] t)).cell? ((⟨w.heap.size, 0, none⟩ : Addr).add j) = some v := by
  intro j v h
  match j, h with
  | 0, h => simp at h; subst h; simp [Addr.add]
  | 1, h => simp at h; subst h; simp [Addr.add]
theorem below_appT {B : Nat} {W0 wA w' : World} {o : Obj} {e : TypeId} {size : Nat} {v : Value} {n : Nat} {xs : List Value} (hb : Below B W0 wA) (hB : B ≤ wA.heap.size) (hown : wA.ownsRow B e size v n xs) (hg : (wA.alloc o).grownBy w' v.ownBlock) : Below B W0 w' := by
  have h1 : Below B W0 (wA.alloc o) := hb.alloc hB o
  have hs : (wA.alloc o).heap.size = wA.heap.size + 1 := by simp
  refine ⟨hg.os.trans h1.os, hg.tape.trans h1.tape, hg.output.trans h1.output, Nat.le_trans h1.size hg.size, fun k hk => ?_⟩
  refine (hg.block k (by omega) ?_).trans (h1.block k hk)
  rcases hown.2 with ⟨rfl, _⟩ | ⟨g, cap, cur, rfl, hbg, _⟩
  · simp [Value.ownBlock]
  · simp [Value.ownBlock]
    omega
theorem tuL_app (l m : List Sec) : tuL (l ++ m) = tuL l ++ tuL m := by simp [tuL]
theorem tuL_length (l : List Sec) : (tuL l).length = l.length * 2 := by
  induction l with
  | nil => rfl
  | cons x l ih => simp only [tuL, List.flatMap_cons, List.length_append, List.length_cons, List.length_nil] at *; omega
theorem tuL_step {l : List Sec} {k : Nat} (h : k < l.length) : flT (tuL (l.take (k + 1))) = flT (tuL (l.take k)) ++ [(.int .i64 ((gs l k).fx)), (.int .i64 ((gs l k).fy)), (.int .i64 ((gs l k).tx)), (.int .i64 ((gs l k).ty))] := by
  rw [take_succ_gs h, tuL_app, flT_app]
  rfl
def TuPost (T : List V) (w : World) (e : Ending) (w' : World) : Prop := ∃ u, e = .returned u ∧ w'.ownsRow w.heap.size 24 2 u T.length (flT T) ∧ Below w.heap.size w w'

set_option maxRecDepth 100000 in
set_option maxHeartbeats 6400000 in
theorem rturns_c (a b : Value) (l m : List Sec) (w : World) (ha : Secs w a l) (hb : Secs w b m) (h1 : l.length ≤ 12) (h2 : m.length ≤ 12) : Calls Try.prog 30 #[a, b] w (TuPost (tuL (l ++ m)) w) := by
  obtain ⟨⟨pa, ca, rfl, _, _, hpa⟩, _⟩ := ha
  obtain ⟨⟨pb, cb, rfl, _, _, hpb⟩, _⟩ := hb
  have HL := Lib.hid hpa
  have HM := Lib.hid hpb
  clear hpa hpb
  obtain ⟨i0, hi, hz0, hz1, hz2⟩ := info_partsT info_pT
  have HI := Lib.hid hi
  clear hi
  go_enter Try.func30, Try.ntmps30
  go_wp2
  go_loopw [5, 6] (fun o i wr => ∃ k : Nat, i = (.int .i64 k) ∧ k ≤ l.length ∧ Hid (wr.ownsRow w.heap.size 24 2 o (k * 2) (flT (tuL (l.take k)))) ∧ Below w.heap.size w wr) (fun _ i _ => l.length - (intOf i).toNat)
  case atStart => exact ⟨0, rfl, by omega, Lib.hid (World.ownsRow_nil _ _ _ _), Below.refl _ _⟩
  case round =>
    obtain ⟨k, rfl, hk, HO, hbel⟩ := hrel
    by_cases hlt : k < l.length
    · obtain ⟨b, off, rfl, hr⟩ := HL.out (by omega)
      have hbw := hr.lt (by omega)
      obtain ⟨e0, e1, e2, e3, _⟩ := hr k hlt
      obtain ⟨c0, c1, c2, c3, c4, c5⟩ := (hr.below (hr.lt (by omega)) hbel) k hlt
      have hbr : b < wr.heap.size := World.block_lt_of_cell? _ _ c0
      have hsz := hbel.size
      have HB := Lib.hid hbel
      clear hbel hr c4 c5
      generalize hx1 : (gs l k).fx = x1 at *
      generalize hx2 : (gs l k).fy = x2 at *
      generalize hx3 : (gs l k).tx = x3 at *
      generalize hx4 : (gs l k).ty = x4 at *
      have HX := Lib.hid (And.intro hx1 (And.intro hx2 (And.intro hx3 hx4)))
      clear hx1 hx2 hx3 hx4
      have HO2 := HO.out.drew
      have hB2 := HB.out.drew
      have hs2 : w.heap.size ≤ wr.drew.heap.size := hsz
      have HOW := Lib.hid HO2
      have HBW := Lib.hid hB2
      clear HO2 hB2 HB
      go_wp2_with fail
      refine wp_region_held_drew (S := fun w' => w'.cell? ⟨b, off + k * 6, none⟩ = some (.int .i64 x1) ∧ w'.cell? ⟨b, off + k * 6 + 1, none⟩ = some (.int .i64 x2) ∧ w'.cell? ⟨b, off + k * 6 + 2, none⟩ = some (.int .i64 x3) ∧ w'.cell? ⟨b, off + k * 6 + 3, none⟩ = some (.int .i64 x4)) (by kernel_rfl) (by first | (go_keep; done) | ((repeat' apply And.intro) <;> go_simp)) (fun hHeld => ?_)
      refine wpAnyH_take (i := 0) (oi := ⟨some 14, _, _, _, _, _⟩) (v := ?_) rfl (by kernel_rfl) (by kernel_rfl) (by kernel_rfl) (fun _ _ _ h => h) (Or.inl ⟨by rfl, ?_⟩) (by assumption) ?_
      rotate_left
      · intro w hSw; (try dsimp only at hSw); go_simp; try with_reducible rfl
      try simp only [Act.put, List.setIfInBounds_toArray, List.set_cons_zero, List.set_cons_succ]
      refine wpAnyH_take (i := 1) (oi := ⟨some 15, _, _, _, _, _⟩) (v := ?_) rfl (by kernel_rfl) (by kernel_rfl) (by kernel_rfl) (fun _ _ _ h => h) (Or.inl ⟨by rfl, ?_⟩) (by assumption) ?_
      rotate_left
      · intro w hSw; (try dsimp only at hSw); go_simp; try with_reducible rfl
      try simp only [Act.put, List.setIfInBounds_toArray, List.set_cons_zero, List.set_cons_succ]
      refine wpAnyH_take (i := 2) (oi := ⟨some 16, _, _, _, _, _⟩) (v := ?_) rfl (by kernel_rfl) (by kernel_rfl) (by kernel_rfl) (fun _ _ _ h => h) (Or.inl ⟨by rfl, ?_⟩) (by assumption) ?_
      rotate_left
      · intro w hSw; (try dsimp only at hSw); go_simp; try with_reducible rfl
      try simp only [Act.put, List.setIfInBounds_toArray, List.set_cons_zero, List.set_cons_succ]
      refine wpAnyH_take (i := 3) (oi := ⟨some 17, _, _, _, _, _⟩) (v := ?_) rfl (by kernel_rfl) (by kernel_rfl) (by kernel_rfl) (fun _ _ _ h => h) (Or.inl ⟨by rfl, ?_⟩) (by assumption) ?_
      rotate_left
      · intro w hSw; (try dsimp only at hSw); go_simp; try with_reducible rfl
      try simp only [Act.put, List.setIfInBounds_toArray, List.set_cons_zero, List.set_cons_succ]
      refine wpAnyH_take (i := 4) (oi := ⟨some 18, _, _, _, _, _⟩) (v := ?_) rfl (by kernel_rfl) (by kernel_rfl) (by kernel_rfl) (fun _ _ _ h => h) (Or.inl ⟨by rfl, ?_⟩) (by assumption) ?_
      rotate_left
      · intro w hSw; (try dsimp only at hSw); go_simp; try with_reducible rfl
      try simp only [Act.put, List.setIfInBounds_toArray, List.set_cons_zero, List.set_cons_succ]
      refine wpAnyH_take (i := 5) (oi := ⟨some 19, _, _, _, _, _⟩) (v := ?_) rfl (by kernel_rfl) (by kernel_rfl) (by kernel_rfl) (fun _ _ _ h => h) (Or.inl ⟨by rfl, ?_⟩) (by assumption) ?_
      rotate_left
      · intro w hSw; (try dsimp only at hSw); go_simp; try with_reducible rfl
      try simp only [Act.put, List.setIfInBounds_toArray, List.set_cons_zero, List.set_cons_succ]
      refine wpAnyH_take (i := 6) (oi := ⟨some 20, _, _, _, _, _⟩) (v := ?_) rfl (by kernel_rfl) (by kernel_rfl) (by kernel_rfl) (fun _ _ _ h => h) (Or.inl ⟨by rfl, ?_⟩) (by assumption) ?_
      rotate_left
      · intro w hSw; (try dsimp only at hSw); go_simp; try with_reducible rfl
      try simp only [Act.put, List.setIfInBounds_toArray, List.set_cons_zero, List.set_cons_succ]
      refine wpAnyH_take (i := 7) (oi := ⟨some 21, _, _, _, _, _⟩) (v := ?_) rfl (by kernel_rfl) (by kernel_rfl) (by kernel_rfl) (fun _ _ _ h => h) (Or.inl ⟨by rfl, ?_⟩) (by assumption) ?_
      rotate_left
      · intro w hSw; (try dsimp only at hSw); go_simp; try with_reducible rfl
      try simp only [Act.put, List.setIfInBounds_toArray, List.set_cons_zero, List.set_cons_succ]
      refine wpAnyH_take (i := 8) (oi := ⟨some 22, _, _, _, _, _⟩) (v := ?_) rfl (by kernel_rfl) (by kernel_rfl) (by kernel_rfl) (fun _ _ _ h => h) (Or.inl ⟨by rfl, ?_⟩) (by assumption) ?_
      rotate_left
      · intro w hSw; (try dsimp only at hSw); go_simp; try with_reducible rfl
      try simp only [Act.put, List.setIfInBounds_toArray, List.set_cons_zero, List.set_cons_succ]
      refine wpAnyH_take (i := 9) (oi := ⟨some 23, _, _, _, _, _⟩) (v := ?_) rfl (by kernel_rfl) (by kernel_rfl) (by kernel_rfl) (fun _ _ _ h => h) (Or.inl ⟨by rfl, ?_⟩) (by assumption) ?_
      rotate_left
      · intro w hSw; (try dsimp only at hSw); go_simp; try with_reducible rfl
      try simp only [Act.put, List.setIfInBounds_toArray, List.set_cons_zero, List.set_cons_succ]
      refine wpAnyH_take (i := 10) (oi := ⟨some 24, _, _, _, _, _⟩) (v := ?_) rfl (by kernel_rfl) (by kernel_rfl) (by kernel_rfl) (fun _ _ _ h => h) (Or.inl ⟨by rfl, ?_⟩) (by assumption) ?_
      rotate_left
      · intro w hSw; (try dsimp only at hSw); go_simp; try with_reducible rfl
      try simp only [Act.put, List.setIfInBounds_toArray, List.set_cons_zero, List.set_cons_succ]
      refine wpAnyH_ready (rs := [11]) (by kernel_rfl) (by simp) ?_
      refine AllReadyH.cons (o := ⟨some 25, _, _, _, _, _⟩) rfl (fun KK hKK => ?_) AllReadyH.nil
      go_simp
      (try go_wp2_with fail)
      refine hKK.out _ _ (by first | (go_keep; done) | ((repeat' apply And.intro) <;> go_simp)) (fun hHeld => ?_)
      clear hKK KK
      try simp only [Act.put, List.setIfInBounds_toArray, List.set_cons_zero, List.set_cons_succ]
      refine wpAnyH_ready (rs := [12]) (by kernel_rfl) (by simp) ?_
      refine AllReadyH.cons (o := ⟨some 26, _, _, _, _, _⟩) rfl (fun KK hKK => ?_) AllReadyH.nil
      refine wp_append_own _ _ _ 48 rfl w.heap.size 24 i0 (.agg #[(.int .i64 0), (.int .i64 0)]) 2 16 Try.underlying48 HI.out hz0 hz1 hz2 rfl (by decide) _ _ _ (by rfl) (HOW.out.alloc _) ⟨wr.drew.heap.size, 0, none⟩ 2 2 [(.int .i64 x1), (.int .i64 x2), (.int .i64 x3), (.int .i64 x4)] (by rfl) rfl (four_new _ _ _ _ _ _) (by simp [Value.oneCell']) (by unfold maxLen; omega) (by omega) (by simp; omega) ?_
      intro v9 w3 hown1 hgrow1 _
      have hRR := below_appT HBW.out hs2 HOW.out hgrow1
      have hR := Lib.hid hRR
      have HR2 := Lib.hid hown1
      have d0 := (hRR.cell (p := ⟨b, off + k * 6, none⟩) hbw).trans e0
      have d1 := (hRR.cell (p := ⟨b, off + k * 6 + 1, none⟩) hbw).trans e1
      have d2 := (hRR.cell (p := ⟨b, off + k * 6 + 2, none⟩) hbw).trans e2
      have d3 := (hRR.cell (p := ⟨b, off + k * 6 + 3, none⟩) hbw).trans e3
      clear hown1 hgrow1 hRR
      (try go_wp2_with fail)
      refine hKK.out _ _ (by first | (go_keep; done) | ((repeat' apply And.intro) <;> go_simp)) (fun hHeld => ?_)
      clear hKK KK
      try simp only [Act.put, List.setIfInBounds_toArray, List.set_cons_zero, List.set_cons_succ]
      refine wpAnyH_take (i := 13) (oi := ⟨some 5, _, _, _, _, _⟩) (v := ?_) rfl (by kernel_rfl) (by kernel_rfl) (by kernel_rfl) (fun _ _ _ h => h) (Or.inl ⟨by rfl, ?_⟩) (by assumption) ?_
      rotate_left
      · intro w hSw; (try dsimp only at hSw); go_simp; try with_reducible rfl
      try simp only [Act.put, List.setIfInBounds_toArray, List.set_cons_zero, List.set_cons_succ]
      refine wpAnyH_done (by kernel_rfl) ?_ _
      (try dsimp only [Exit.then, Met])
      go_wp2
      go_roundw
      case rel => exact ⟨k + 1, by go_num, by omega, Lib.hid (by
        have h := HR2.out
        obtain ⟨y1, y2, y3, y4⟩ := HX.out
        rw [← y1, ← y2, ← y3, ← y4, ← tuL_step hlt] at h
        rw [show (k + 1) * 2 = k * 2 + 2 by omega]
        exact h), hR.out⟩
      case measure => simp [intOf]; omega
    · obtain rfl : k = l.length := by omega
      have HB := Lib.hid hbel
      clear hbel
      rw [List.take_length] at HO
      clear HL
      rename World => W1
      have HB1 := Lib.hid HB.out
      clear HB
      go_wp2
      go_loopw [5, 7] (fun o i wr => ∃ k : Nat, i = (.int .i64 k) ∧ k ≤ m.length ∧ Hid (wr.ownsRow w.heap.size 24 2 o (l.length * 2 + k * 2) (flT (tuL l) ++ flT (tuL (m.take k)))) ∧ Below w.heap.size w wr) (fun _ i _ => m.length - (intOf i).toNat)
      case atStart => exact ⟨0, rfl, by omega, Lib.hid (by have h := HO.out; simpa [tuL, flT] using h), HB1.out⟩
      case round =>
        obtain ⟨k, rfl, hk, HO, hbel⟩ := hrel
        by_cases hlt : k < m.length
        · obtain ⟨b, off, rfl, hr⟩ := HM.out (by omega)
          have hbw := hr.lt (by omega)
          obtain ⟨e0, e1, e2, e3, _⟩ := hr k hlt
          obtain ⟨c0, c1, c2, c3, c4, c5⟩ := (hr.below (hr.lt (by omega)) hbel) k hlt
          have hbr : b < wr.heap.size := World.block_lt_of_cell? _ _ c0
          have hsz := hbel.size
          have HB := Lib.hid hbel
          clear hbel hr c4 c5
          generalize hx1 : (gs m k).fx = x1 at *
          generalize hx2 : (gs m k).fy = x2 at *
          generalize hx3 : (gs m k).tx = x3 at *
          generalize hx4 : (gs m k).ty = x4 at *
          have HX := Lib.hid (And.intro hx1 (And.intro hx2 (And.intro hx3 hx4)))
          clear hx1 hx2 hx3 hx4
          have HO2 := HO.out.drew
          have hB2 := HB.out.drew
          have hs2 : w.heap.size ≤ wr.drew.heap.size := hsz
          have HOW := Lib.hid HO2
          have HBW := Lib.hid hB2
          clear HO2 hB2 HB
          go_wp2_with fail
          refine wp_region_held_drew (S := fun w' => w'.cell? ⟨b, off + k * 6, none⟩ = some (.int .i64 x1) ∧ w'.cell? ⟨b, off + k * 6 + 1, none⟩ = some (.int .i64 x2) ∧ w'.cell? ⟨b, off + k * 6 + 2, none⟩ = some (.int .i64 x3) ∧ w'.cell? ⟨b, off + k * 6 + 3, none⟩ = some (.int .i64 x4)) (by kernel_rfl) (by first | (go_keep; done) | ((repeat' apply And.intro) <;> go_simp)) (fun hHeld => ?_)
          refine wpAnyH_take (i := 0) (oi := ⟨some 33, _, _, _, _, _⟩) (v := ?_) rfl (by kernel_rfl) (by kernel_rfl) (by kernel_rfl) (fun _ _ _ h => h) (Or.inl ⟨by rfl, ?_⟩) (by assumption) ?_
          rotate_left
          · intro w hSw; (try dsimp only at hSw); go_simp; try with_reducible rfl
          try simp only [Act.put, List.setIfInBounds_toArray, List.set_cons_zero, List.set_cons_succ]
          refine wpAnyH_take (i := 1) (oi := ⟨some 34, _, _, _, _, _⟩) (v := ?_) rfl (by kernel_rfl) (by kernel_rfl) (by kernel_rfl) (fun _ _ _ h => h) (Or.inl ⟨by rfl, ?_⟩) (by assumption) ?_
          rotate_left
          · intro w hSw; (try dsimp only at hSw); go_simp; try with_reducible rfl
          try simp only [Act.put, List.setIfInBounds_toArray, List.set_cons_zero, List.set_cons_succ]
          refine wpAnyH_take (i := 2) (oi := ⟨some 35, _, _, _, _, _⟩) (v := ?_) rfl (by kernel_rfl) (by kernel_rfl) (by kernel_rfl) (fun _ _ _ h => h) (Or.inl ⟨by rfl, ?_⟩) (by assumption) ?_
          rotate_left
          · intro w hSw; (try dsimp only at hSw); go_simp; try with_reducible rfl
          try simp only [Act.put, List.setIfInBounds_toArray, List.set_cons_zero, List.set_cons_succ]
          refine wpAnyH_take (i := 3) (oi := ⟨some 36, _, _, _, _, _⟩) (v := ?_) rfl (by kernel_rfl) (by kernel_rfl) (by kernel_rfl) (fun _ _ _ h => h) (Or.inl ⟨by rfl, ?_⟩) (by assumption) ?_
          rotate_left
          · intro w hSw; (try dsimp only at hSw); go_simp; try with_reducible rfl
          try simp only [Act.put, List.setIfInBounds_toArray, List.set_cons_zero, List.set_cons_succ]
          refine wpAnyH_take (i := 4) (oi := ⟨some 37, _, _, _, _, _⟩) (v := ?_) rfl (by kernel_rfl) (by kernel_rfl) (by kernel_rfl) (fun _ _ _ h => h) (Or.inl ⟨by rfl, ?_⟩) (by assumption) ?_
          rotate_left
          · intro w hSw; (try dsimp only at hSw); go_simp; try with_reducible rfl
          try simp only [Act.put, List.setIfInBounds_toArray, List.set_cons_zero, List.set_cons_succ]
          refine wpAnyH_take (i := 5) (oi := ⟨some 38, _, _, _, _, _⟩) (v := ?_) rfl (by kernel_rfl) (by kernel_rfl) (by kernel_rfl) (fun _ _ _ h => h) (Or.inl ⟨by rfl, ?_⟩) (by assumption) ?_
          rotate_left
          · intro w hSw; (try dsimp only at hSw); go_simp; try with_reducible rfl
          try simp only [Act.put, List.setIfInBounds_toArray, List.set_cons_zero, List.set_cons_succ]
          refine wpAnyH_take (i := 6) (oi := ⟨some 39, _, _, _, _, _⟩) (v := ?_) rfl (by kernel_rfl) (by kernel_rfl) (by kernel_rfl) (fun _ _ _ h => h) (Or.inl ⟨by rfl, ?_⟩) (by assumption) ?_
          rotate_left
          · intro w hSw; (try dsimp only at hSw); go_simp; try with_reducible rfl
          try simp only [Act.put, List.setIfInBounds_toArray, List.set_cons_zero, List.set_cons_succ]
          refine wpAnyH_take (i := 7) (oi := ⟨some 40, _, _, _, _, _⟩) (v := ?_) rfl (by kernel_rfl) (by kernel_rfl) (by kernel_rfl) (fun _ _ _ h => h) (Or.inl ⟨by rfl, ?_⟩) (by assumption) ?_
          rotate_left
          · intro w hSw; (try dsimp only at hSw); go_simp; try with_reducible rfl
          try simp only [Act.put, List.setIfInBounds_toArray, List.set_cons_zero, List.set_cons_succ]
          refine wpAnyH_take (i := 8) (oi := ⟨some 41, _, _, _, _, _⟩) (v := ?_) rfl (by kernel_rfl) (by kernel_rfl) (by kernel_rfl) (fun _ _ _ h => h) (Or.inl ⟨by rfl, ?_⟩) (by assumption) ?_
          rotate_left
          · intro w hSw; (try dsimp only at hSw); go_simp; try with_reducible rfl
          try simp only [Act.put, List.setIfInBounds_toArray, List.set_cons_zero, List.set_cons_succ]
          refine wpAnyH_take (i := 9) (oi := ⟨some 42, _, _, _, _, _⟩) (v := ?_) rfl (by kernel_rfl) (by kernel_rfl) (by kernel_rfl) (fun _ _ _ h => h) (Or.inl ⟨by rfl, ?_⟩) (by assumption) ?_
          rotate_left
          · intro w hSw; (try dsimp only at hSw); go_simp; try with_reducible rfl
          try simp only [Act.put, List.setIfInBounds_toArray, List.set_cons_zero, List.set_cons_succ]
          refine wpAnyH_take (i := 10) (oi := ⟨some 43, _, _, _, _, _⟩) (v := ?_) rfl (by kernel_rfl) (by kernel_rfl) (by kernel_rfl) (fun _ _ _ h => h) (Or.inl ⟨by rfl, ?_⟩) (by assumption) ?_
          rotate_left
          · intro w hSw; (try dsimp only at hSw); go_simp; try with_reducible rfl
          try simp only [Act.put, List.setIfInBounds_toArray, List.set_cons_zero, List.set_cons_succ]
          refine wpAnyH_ready (rs := [11]) (by kernel_rfl) (by simp) ?_
          refine AllReadyH.cons (o := ⟨some 44, _, _, _, _, _⟩) rfl (fun KK hKK => ?_) AllReadyH.nil
          go_simp
          (try go_wp2_with fail)
          refine hKK.out _ _ (by first | (go_keep; done) | ((repeat' apply And.intro) <;> go_simp)) (fun hHeld => ?_)
          clear hKK KK
          try simp only [Act.put, List.setIfInBounds_toArray, List.set_cons_zero, List.set_cons_succ]
          refine wpAnyH_ready (rs := [12]) (by kernel_rfl) (by simp) ?_
          refine AllReadyH.cons (o := ⟨some 45, _, _, _, _, _⟩) rfl (fun KK hKK => ?_) AllReadyH.nil
          refine wp_append_own _ _ _ 48 rfl w.heap.size 24 i0 (.agg #[(.int .i64 0), (.int .i64 0)]) 2 16 Try.underlying48 HI.out hz0 hz1 hz2 rfl (by decide) _ _ _ (by rfl) (HOW.out.alloc _) ⟨wr.drew.heap.size, 0, none⟩ 2 2 [(.int .i64 x1), (.int .i64 x2), (.int .i64 x3), (.int .i64 x4)] (by rfl) rfl (four_new _ _ _ _ _ _) (by simp [Value.oneCell']) (by unfold maxLen; omega) (by omega) (by simp; omega) ?_
          intro v9 w3 hown1 hgrow1 _
          have hRR := below_appT HBW.out hs2 HOW.out hgrow1
          have hR := Lib.hid hRR
          have HR2 := Lib.hid hown1
          have d0 := (hRR.cell (p := ⟨b, off + k * 6, none⟩) hbw).trans e0
          have d1 := (hRR.cell (p := ⟨b, off + k * 6 + 1, none⟩) hbw).trans e1
          have d2 := (hRR.cell (p := ⟨b, off + k * 6 + 2, none⟩) hbw).trans e2
          have d3 := (hRR.cell (p := ⟨b, off + k * 6 + 3, none⟩) hbw).trans e3
          clear hown1 hgrow1 hRR
          (try go_wp2_with fail)
          refine hKK.out _ _ (by first | (go_keep; done) | ((repeat' apply And.intro) <;> go_simp)) (fun hHeld => ?_)
          clear hKK KK
          try simp only [Act.put, List.setIfInBounds_toArray, List.set_cons_zero, List.set_cons_succ]
          refine wpAnyH_take (i := 13) (oi := ⟨some 5, _, _, _, _, _⟩) (v := ?_) rfl (by kernel_rfl) (by kernel_rfl) (by kernel_rfl) (fun _ _ _ h => h) (Or.inl ⟨by rfl, ?_⟩) (by assumption) ?_
          rotate_left
          · intro w hSw; (try dsimp only at hSw); go_simp; try with_reducible rfl
          try simp only [Act.put, List.setIfInBounds_toArray, List.set_cons_zero, List.set_cons_succ]
          refine wpAnyH_done (by kernel_rfl) ?_ _
          (try dsimp only [Exit.then, Met])
          go_wp2
          go_roundw
          case rel => exact ⟨k + 1, by go_num, by omega, Lib.hid (by
            have h := HR2.out
            obtain ⟨y1, y2, y3, y4⟩ := HX.out
            rw [← y1, ← y2, ← y3, ← y4, List.append_assoc, ← tuL_step hlt] at h
            rw [show l.length * 2 + (k + 1) * 2 = l.length * 2 + k * 2 + 2 by omega]
            exact h), hR.out⟩
          case measure => simp [intOf]; omega
        · obtain rfl : k = m.length := by omega
          have HB := Lib.hid hbel
          clear hbel
          rw [List.take_length, ← flT_app, ← tuL_app] at HO
          go_wp2
          go_ret
          exact ⟨_, rfl, by rw [tuL_length, List.length_append, Nat.add_mul]; exact HO.out, HB.out⟩

end Go.Proofs.Ytpadkmlckmopfaa.Se
