/- SecS: normal. -/
import Derived.Test.YtpadkmlckmopfaaSecQ
import Derived.Test.YtpadkmlckmopfaaRows
import Derived.WalkKit
import Derived.WalkSpells
import Derived.WalkLawsBesides
import Derived.Lib.Hide
import Derived.Deep.QuietTactic
import Derived.BigQuiet
import Derived.RegionTactic
import Derived.ChangeAlike
import Derived.BigRegion
import Derived.Deep.RegionHeld3
import Derived.Deep.RegionWith
import Derived.Outline
import Derived.IntWalk
import Derived.Deep.DeepCutAuto
import Derived.LoopTactic
namespace Go.Proofs.Ytpadkmlckmopfaa.Se
open Go.RowKit
set_option linter.unusedSimpArgs false
set_option linter.unusedVariables false

/-- The normal form's row. -/
def NoPost (w : World) (l : List Sec) (e : Ending) (W' : World) : Prop := ∃ v, e = .returned v ∧ W'.ownsRow w.heap.size 26 6 v (noL l).length (flatS (noL l)) ∧ Below w.heap.size w W'
theorem noK_len (l : List Sec) (s : List V) (k : Nat) : (noK l s k).length ≤ k := by
  induction k with
  | zero => simp [noK]
  | succ k ih => simp only [noK, List.length_append]; split <;> simp <;> omega
theorem six_new (w : World) (a b c d e f : Value) (t : TypeId) : ∀ j u, [a, b, c, d, e, f][j]? = some u → (w.alloc (.cells #[a, b, c, d, e, f] t)).cell? ((⟨w.heap.size, 0, none⟩ : Addr).add j) = some u := by
  intro j u h
  match j, h with
  | 0, h => simp at h; subst h; simp [Addr.add]
  | 1, h => simp at h; subst h; simp [Addr.add]
  | 2, h => simp at h; subst h; simp [Addr.add]
  | 3, h => simp at h; subst h; simp [Addr.add]
  | 4, h => simp at h; subst h; simp [Addr.add]
  | 5, h => simp at h; subst h; simp [Addr.add]
theorem ch_len {l : List Sec} (h : allS l) : (chL l).length ≤ 2 * l.length := by
  have h1 := chK_len l (srV ((tuL l).map leV)) (srV ((tuL l).map leV)).length
  have h2 : (srV ((tuL l).map leV)).length = 2 * l.length := by
    unfold srV
    rw [List.length_mergeSort, List.length_map, ← tuD_val h, List.length_map]
    exact upto_length _ _
  unfold chL
  omega
theorem chK_mem {l : List Sec} {s : List V} {k : Nat} {x : V} (h : x ∈ chK l s k) (hk : k ≤ s.length) : x ∈ s := by
  induction k with
  | zero => simp [chK] at h
  | succ k ih =>
    simp only [chK, List.mem_append] at h
    rcases h with h | h
    · exact ih h (by omega)
    · split at h
      · simp at h
      · simp at h; rw [h]; exact gv_mem (by omega)
theorem ch_ok {l : List Sec} (h : allS l) {x : V} (hx : x ∈ chL l) : okD x = true := by
  have h1 := srV_mem (chK_mem hx (Nat.le_refl _))
  rw [← lsD_tu h, ← lsDl_val, List.mem_map] at h1
  obtain ⟨y, _, e⟩ := h1
  have e' : y.1 = x := e
  rw [← e']; exact y.2.1
theorem ke_ok {l : List Sec} (h : allS l) {x : V} (hx : x ∈ keL l) : okD x = true := by
  unfold keL at hx
  split at hx
  · simp at hx; rw [hx]; decide
  · exact ch_ok h hx
theorem ke_len {l : List Sec} (h : allS l) (h24 : l.length ≤ 24) : 0 < (keL l).length ∧ (keL l).length ≤ 48 := by
  have := ch_len h
  unfold keL
  split
  · simp
  · omega

set_option maxRecDepth 100000 in
set_option maxHeartbeats 8000000 in
theorem normal_c (va : Value) (l : List Sec) (w : World) (ha : Secs w va l) (a24 : l.length ≤ 24) (alla : allS l) :
    Calls Try.prog 43 #[va] w (NoPost w l) := by
  obtain ⟨i0, hi, hz0, hz1, hz2⟩ := info_parts info_s
  obtain ⟨pa, ca, rfl⟩ : ∃ p c, va = .slice p l.length c := by obtain ⟨⟨p, c, h, _⟩, _⟩ := ha; exact ⟨p, c, h⟩
  have HI := Lib.hid hi
  clear hi
  have C0 := fun w' (h : Below w.heap.size w w') => changes_c (.slice pa l.length ca) l w' (ha.below h) a24 alla
  have HC0 := Lib.hid C0
  clear C0
  have HSA : Hid (∀ W', Below w.heap.size w W' → Secs W' (.slice pa l.length ca) l) := Lib.hid (fun W' h => ha.below h)
  have HNO := Lib.hid (show noL l = noK l (keL l) (keL l).length from rfl)
  have hke := ke_len alla a24
  have HALL : Hid (∀ i, i < (keL l).length → okD (gv (keL l) i) = true) := Lib.hid (fun i hi => ke_ok alla (gv_mem hi))
  go_enter Try.func43, Try.ntmps43
  go_wp2_with fail
  refine Calls.mono (HC0.out _ (by repeat (first | with_reducible exact Below.refl _ _ | with_reducible assumption | with_reducible refine Below.setCell ?_ (by first | omega | (simp <;> omega)) _ | with_reducible refine balloc ?_ _ | with_reducible refine Below.drew ?_ | with_reducible refine bstep ?_ (by with_reducible assumption)))) ?_
  rintro e W1 ⟨v, rfl, hown, hb1⟩
  have hbw1 : Below w.heap.size w W1 := (by repeat (first | with_reducible exact Below.refl _ _ | with_reducible assumption | with_reducible refine Below.setCell ?_ (by first | omega | (simp <;> omega)) _ | with_reducible refine balloc ?_ _ | with_reducible refine Below.drew ?_ | with_reducible refine bstep ?_ (by with_reducible assumption)))
  obtain ⟨pv, cv, rfl, _, _⟩ := own_form hown
  by_cases h0 : (chL l).length = 0
  · have hK : keL l = [(1, 0)] := by unfold keL; rw [if_pos h0]
    have HK := Lib.hid hK
    rw [h0] at *
    clear hK
    clear hown hb1
    obtain ⟨W2, hW2⟩ : ∃ W2, W1.alloc (.cells #[(.int .i64 1), (.int .i64 0)] 55) = W2 := ⟨_, rfl⟩
    have r0 : W2.cell? ⟨W1.heap.size, 0, none⟩ = some (.int .i64 1) := by rw [← hW2]; clear hW2; go_simp
    have r1 : W2.cell? ⟨W1.heap.size, 1, none⟩ = some (.int .i64 0) := by rw [← hW2]; clear hW2; go_simp
    have hbw2 : Below w.heap.size w W2 := by rw [← hW2]; clear hW2; exact (by repeat (first | with_reducible exact Below.refl _ _ | with_reducible assumption | with_reducible refine Below.setCell ?_ (by first | omega | (simp <;> omega)) _ | with_reducible refine balloc ?_ _ | with_reducible refine Below.drew ?_ | with_reducible refine bstep ?_ (by with_reducible assumption)))
    have hs2w := hbw2.size
    have hgl : W1.heap.size < W2.heap.size := by rw [← hW2]; simp
    obtain ⟨g, hg⟩ : ∃ g, W1.heap.size = g := ⟨_, rfl⟩
    rw [hg] at r0 r1 hgl
    have HW := Lib.hid hW2
    have HGG := Lib.hid hg
    clear hW2 hg HALL HNO hke
    go_wp2_with fail
    rw [HW.out, HGG.out]
    go_loopw [4, 17] (fun s4 i wr => ∃ (k : Nat) (vo : Value), i = (.int .i64 k) ∧ k ≤ 1 ∧ vo = s4 ∧ wr.ownsRow W2.heap.size 26 6 vo (noK l [(1, 0)] k).length (flatS (noK l [(1, 0)] k)) ∧ Below W2.heap.size W2 wr) (fun _ i _ => 1 - (intOf i).toNat)
    case atStart => exact ⟨0, _, rfl, by omega, rfl, World.ownsRow_nil _ _ _ _, Below.refl _ _⟩
    case round =>
      obtain ⟨k, vo, rfl, hk, rfl, hown, hbel⟩ := hrel
      have hbwr : Below w.heap.size w wr := hbw2.trans (hbel.mono hs2w)
      have hswr := hbel.size
      have hsw2 := hbwr.size
      have hgw : g < wr.heap.size := by omega
      by_cases hlt : k < 1
      · obtain rfl : k = 0 := by omega
        have c1 : wr.cell? ⟨g, 0, none⟩ = some (.int .i64 1) := (hbel.cell (p := ⟨g, 0, none⟩) hgl).trans r0
        have c2 : wr.cell? ⟨g, 1, none⟩ = some (.int .i64 0) := (hbel.cell (p := ⟨g, 1, none⟩) hgl).trans r1
        have HCK := Lib.hid (show noK l [(1, 0)] (0 + 1) = noK l [(1, 0)] 0 ++ if shL l (1, 0) = (0, 0) then [] else [mkS (1, 0) (1, 0) (shL l (1, 0))] from rfl)
        have hva : okD ((1 : Int), (0 : Int)) = true := by decide
        have x5 : (noK l [(1, 0)] 0).length = 0 := rfl
        have CA : ∀ W', Below w.heap.size w W' → Calls Try.prog 39 #[(.slice pa l.length ca), .agg #[(.int .i64 1), (.int .i64 0)]] W' (Ret W' (.agg #[(.int .i64 0), (.int .i64 0), (.int .i64 0), (.int .i64 0), (.int .i64 ((shL l (1, 0)).1)), (.int .i64 ((shL l (1, 0)).2))])) := fun W' h => shown_s 1 0 (HSA.out W' h) a24 alla (okD_W hva)
        generalize shL l (1, 0) = sa at *
        obtain ⟨sa1, sa2⟩ := sa
        dsimp only at CA
        have HO := Lib.hid hown
        clear hown
        go_wp2_with fail
        refine Calls.mono (CA _ (by repeat (first | with_reducible exact Below.refl _ _ | with_reducible assumption | with_reducible refine Below.setCell ?_ (by first | omega | (simp <;> omega)) _ | with_reducible refine balloc ?_ _ | with_reducible refine Below.drew ?_ | with_reducible refine bstep ?_ (by with_reducible assumption)))) ?_
        rintro e w1 ⟨rfl, hb1⟩
        have hb1X : Below wr.heap.size wr w1 := (by repeat (first | with_reducible exact Below.refl _ _ | with_reducible assumption | with_reducible refine Below.setCell ?_ (by first | omega | (simp <;> omega)) _ | with_reducible refine balloc ?_ _ | with_reducible refine Below.drew ?_ | with_reducible refine bstep ?_ (by with_reducible assumption)))
        have hb1B : Below w.heap.size w w1 := hbwr.trans (hb1X.mono hsw2)
        have hb1s := hb1.size
        (try simp at hb1s)
        obtain ⟨hc1, _⟩ := bcell hb1
        have g7 := fun o => hc1 wr.heap.size o (by first | omega | (simp <;> omega))
        have gg := fun o => hc1 g o (by first | omega | (simp <;> omega))
        clear hc1 hb1 hb1B
        have zg : g < w1.heap.size := by omega
        have zw : wr.heap.size < w1.heap.size := by omega
        have zne : g ≠ w1.heap.size := by omega
        have zne2 : wr.heap.size ≠ w1.heap.size := by omega
        by_cases q1 : sa1 = 0
        · by_cases q2 : sa2 = 0
          · subst q1 q2
            go_wp2
            go_roundw
            case rel => exact ⟨0 + 1, _, by simp, by omega, rfl, by rw [show noK l [(1, 0)] (0 + 1) = noK l [(1, 0)] 0 by rw [HCK.out]; simp]; exact own_below HO.out (by repeat (first | with_reducible exact Below.refl _ _ | with_reducible assumption | with_reducible refine Below.setCell ?_ (by first | omega | (simp <;> omega)) _ | with_reducible refine balloc ?_ _ | with_reducible refine Below.drew ?_ | with_reducible refine bstep ?_ (by with_reducible assumption))), hbel.trans ((show Below wr.heap.size wr _ from (by repeat (first | with_reducible exact Below.refl _ _ | with_reducible assumption | with_reducible refine Below.setCell ?_ (by first | omega | (simp <;> omega)) _ | with_reducible refine balloc ?_ _ | with_reducible refine Below.drew ?_ | with_reducible refine bstep ?_ (by with_reducible assumption)))).mono hswr)⟩
            case measure => simp [intOf] <;> omega
          · have q3 : ¬ ((sa1, sa2) = ((0 : Int), (0 : Int))) := fun h => q2 (congrArg Prod.snd h)
            subst q1
            go_upto_region 10 with fail
            go_cut [7] (fun q7 wx => q7 = .pointer (some ⟨w1.heap.size, 0, none⟩) ∧ wx.cell? ⟨w1.heap.size, 0, none⟩ = some (.int .i64 1) ∧ wx.cell? ⟨w1.heap.size, 1, none⟩ = some (.int .i64 0) ∧ wx.cell? ⟨w1.heap.size, 2, none⟩ = some (.int .i64 1) ∧ wx.cell? ⟨w1.heap.size, 3, none⟩ = some (.int .i64 0) ∧ wx.cell? ⟨w1.heap.size, 4, none⟩ = some (.int .i64 0) ∧ wx.cell? ⟨w1.heap.size, 5, none⟩ = some (.int .i64 sa2) ∧ Below wr.heap.size wr wx)
            case first =>
              refine wp_region_held_drew (S := fun w' => w'.cell? ⟨wr.heap.size, 0, none⟩ = some (.int .i64 1) ∧ w'.cell? ⟨wr.heap.size, 1, none⟩ = some (.int .i64 0) ∧ w'.cell? ⟨g, 0, none⟩ = some (.int .i64 1) ∧ w'.cell? ⟨g, 1, none⟩ = some (.int .i64 0)) (by kernel_rfl) (by first | (go_keep; done) | ((repeat' apply And.intro) <;> go_simp)) (fun hHeld => ?_)
              refine wpAnyH_take (i := 0) (oi := ⟨some 28, _, _, _, _, _⟩) (v := ?_) rfl (by kernel_rfl) (by kernel_rfl) (by kernel_rfl) (fun _ _ _ h => h) (Or.inl ⟨by rfl, ?_⟩) (by assumption) ?_
              rotate_left
              · intro w hSw; (try dsimp only at hSw); go_simp; try with_reducible rfl
              try simp only [Act.put, List.setIfInBounds_toArray, List.set_cons_zero, List.set_cons_succ]
              refine wpAnyH_take (i := 1) (oi := ⟨some 29, _, _, _, _, _⟩) (v := ?_) rfl (by kernel_rfl) (by kernel_rfl) (by kernel_rfl) (fun _ _ _ h => h) (Or.inl ⟨by rfl, ?_⟩) (by assumption) ?_
              rotate_left
              · intro w hSw; (try dsimp only at hSw); go_simp; try with_reducible rfl
              try simp only [Act.put, List.setIfInBounds_toArray, List.set_cons_zero, List.set_cons_succ]
              refine wpAnyH_take (i := 2) (oi := ⟨some 30, _, _, _, _, _⟩) (v := ?_) rfl (by kernel_rfl) (by kernel_rfl) (by kernel_rfl) (fun _ _ _ h => h) (Or.inl ⟨by rfl, ?_⟩) (by assumption) ?_
              rotate_left
              · intro w hSw; (try dsimp only at hSw); go_simp; try with_reducible rfl
              try simp only [Act.put, List.setIfInBounds_toArray, List.set_cons_zero, List.set_cons_succ]
              refine wpAnyH_take (i := 3) (oi := ⟨some 31, _, _, _, _, _⟩) (v := ?_) rfl (by kernel_rfl) (by kernel_rfl) (by kernel_rfl) (fun _ _ _ h => h) (Or.inl ⟨by rfl, ?_⟩) (by assumption) ?_
              rotate_left
              · intro w hSw; (try dsimp only at hSw); go_simp; try with_reducible rfl
              try simp only [Act.put, List.setIfInBounds_toArray, List.set_cons_zero, List.set_cons_succ]
              refine wpAnyH_take (i := 4) (oi := ⟨some 32, _, _, _, _, _⟩) (v := ?_) rfl (by kernel_rfl) (by kernel_rfl) (by kernel_rfl) (fun _ _ _ h => h) (Or.inl ⟨by rfl, ?_⟩) (by assumption) ?_
              rotate_left
              · intro w hSw; (try dsimp only at hSw); go_simp; try with_reducible rfl
              try simp only [Act.put, List.setIfInBounds_toArray, List.set_cons_zero, List.set_cons_succ]
              refine wpAnyH_take (i := 5) (oi := ⟨some 33, _, _, _, _, _⟩) (v := ?_) rfl (by kernel_rfl) (by kernel_rfl) (by kernel_rfl) (fun _ _ _ h => h) (Or.inl ⟨by rfl, ?_⟩) (by assumption) ?_
              rotate_left
              · intro w hSw; (try dsimp only at hSw); go_simp; try with_reducible rfl
              try simp only [Act.put, List.setIfInBounds_toArray, List.set_cons_zero, List.set_cons_succ]
              refine wpAnyH_take (i := 6) (oi := ⟨some 34, _, _, _, _, _⟩) (v := ?_) rfl (by kernel_rfl) (by kernel_rfl) (by kernel_rfl) (fun _ _ _ h => h) (Or.inl ⟨by rfl, ?_⟩) (by assumption) ?_
              rotate_left
              · intro w hSw; (try dsimp only at hSw); go_simp; try with_reducible rfl
              try simp only [Act.put, List.setIfInBounds_toArray, List.set_cons_zero, List.set_cons_succ]
              refine wpAnyH_take (i := 7) (oi := ⟨some 35, _, _, _, _, _⟩) (v := ?_) rfl (by kernel_rfl) (by kernel_rfl) (by kernel_rfl) (fun _ _ _ h => h) (Or.inl ⟨by rfl, ?_⟩) (by assumption) ?_
              rotate_left
              · intro w hSw; (try dsimp only at hSw); go_simp; try with_reducible rfl
              try simp only [Act.put, List.setIfInBounds_toArray, List.set_cons_zero, List.set_cons_succ]
              refine wpAnyH_take (i := 8) (oi := ⟨some 36, _, _, _, _, _⟩) (v := ?_) rfl (by kernel_rfl) (by kernel_rfl) (by kernel_rfl) (fun _ _ _ h => h) (Or.inl ⟨by rfl, ?_⟩) (by assumption) ?_
              rotate_left
              · intro w hSw; (try dsimp only at hSw); go_simp; try with_reducible rfl
              try simp only [Act.put, List.setIfInBounds_toArray, List.set_cons_zero, List.set_cons_succ]
              refine wpAnyH_take (i := 9) (oi := ⟨some 37, _, _, _, _, _⟩) (v := ?_) rfl (by kernel_rfl) (by kernel_rfl) (by kernel_rfl) (fun _ _ _ h => h) (Or.inl ⟨by rfl, ?_⟩) (by assumption) ?_
              rotate_left
              · intro w hSw; (try dsimp only at hSw); go_simp; try with_reducible rfl
              try simp only [Act.put, List.setIfInBounds_toArray, List.set_cons_zero, List.set_cons_succ]
              refine wpAnyH_ready (rs := [10]) (by kernel_rfl) (by simp) ?_
              refine AllReadyH.cons (o := ⟨none, _, _, _, _, _⟩) rfl (fun KK hKK => ?_) AllReadyH.nil
              go_simp
              (try go_wp2_with fail)
              refine hKK.out _ _ (by first | (go_keep; done) | ((repeat' apply And.intro) <;> go_simp)) (fun hHeld => ?_)
              clear hKK KK
              try simp only [Act.put, List.setIfInBounds_toArray, List.set_cons_zero, List.set_cons_succ]
              refine wpAnyH_take (i := 11) (oi := ⟨some 38, _, _, _, _, _⟩) (v := ?_) rfl (by kernel_rfl) (by kernel_rfl) (by kernel_rfl) (fun _ _ _ h => h) (Or.inl ⟨by rfl, ?_⟩) (by assumption) ?_
              rotate_left
              · intro w hSw; (try dsimp only at hSw); go_simp; try with_reducible rfl
              try simp only [Act.put, List.setIfInBounds_toArray, List.set_cons_zero, List.set_cons_succ]
              refine wpAnyH_ready (rs := [12]) (by kernel_rfl) (by simp) ?_
              refine AllReadyH.cons (o := ⟨none, _, _, _, _, _⟩) rfl (fun KK hKK => ?_) AllReadyH.nil
              go_simp
              (try go_wp2_with fail)
              refine hKK.out _ _ (by first | (go_keep; done) | ((repeat' apply And.intro) <;> go_simp)) (fun hHeld => ?_)
              clear hKK KK
              try simp only [Act.put, List.setIfInBounds_toArray, List.set_cons_zero, List.set_cons_succ]
              refine wpAnyH_done (by kernel_rfl) ?_ _
              go_wp2_with fail
              go_meet
              refine ⟨rfl, ?_, ?_, ?_, ?_, ?_, ?_, (by repeat (first | with_reducible exact Below.refl _ _ | with_reducible assumption | with_reducible refine Below.setCell ?_ (by first | omega | (simp <;> omega)) _ | with_reducible refine balloc ?_ _ | with_reducible refine Below.drew ?_ | with_reducible refine bstep ?_ (by with_reducible assumption)))⟩
              all_goals go_simp
            case rest =>
              obtain ⟨rfl, k0, k1, k2, k3, k4, k5, hbx⟩ := hcut
              have HOW2 := own_below HO.out hbx
              have hbw3 : Below W2.heap.size W2 wc := hbel.trans (hbx.mono hswr)
              have hsc := hbx.size
              have z7 : w1.heap.size < wc.heap.size := World.block_lt_of_cell? _ _ k0
              go_wp2_with (at_builtin; go_must (refine wpList_append_own _ rfl _ _ 22 rfl W2.heap.size 26 i0 (.agg #[(.int .i64 0), (.int .i64 0), (.int .i64 0), (.int .i64 0), (.int .i64 0), (.int .i64 0)]) 6 48 Try.underlying22 HI.out hz0 hz1 hz2 rfl (by decide) _ _ _ rfl (HOW2.alloc _) ⟨wc.heap.size, 0, none⟩ 1 1 [(.int .i64 1), (.int .i64 0), (.int .i64 1), (.int .i64 0), (.int .i64 0), (.int .i64 sa2)] rfl rfl (six_new _ _ _ _ _ _ _ _) (by simp [Value.oneCell']) (by unfold maxLen; omega) (by omega) (by simp; omega) ?_); intro v1 w3 hown1 hgrow1 _)
              have hR1 := below_app hbw3 (by omega) HOW2 hgrow1
              have HR2 := Lib.hid hown1
              clear hown1 hgrow1
              go_wp2
              go_roundw
              case rel => exact ⟨0 + 1, _, by simp, by omega, rfl, by rw [HCK.out, if_neg q3, List.length_append, flatS_app]; exact HR2.out, hR1⟩
              case measure => simp [intOf] <;> omega
        · have q3 : ¬ ((sa1, sa2) = ((0 : Int), (0 : Int))) := fun h => q1 (congrArg Prod.fst h)
          go_upto_region 10 with fail
          go_cut [7] (fun q7 wx => q7 = .pointer (some ⟨w1.heap.size, 0, none⟩) ∧ wx.cell? ⟨w1.heap.size, 0, none⟩ = some (.int .i64 1) ∧ wx.cell? ⟨w1.heap.size, 1, none⟩ = some (.int .i64 0) ∧ wx.cell? ⟨w1.heap.size, 2, none⟩ = some (.int .i64 1) ∧ wx.cell? ⟨w1.heap.size, 3, none⟩ = some (.int .i64 0) ∧ wx.cell? ⟨w1.heap.size, 4, none⟩ = some (.int .i64 sa1) ∧ wx.cell? ⟨w1.heap.size, 5, none⟩ = some (.int .i64 sa2) ∧ Below wr.heap.size wr wx)
          case first =>
            refine wp_region_held_drew (S := fun w' => w'.cell? ⟨wr.heap.size, 0, none⟩ = some (.int .i64 1) ∧ w'.cell? ⟨wr.heap.size, 1, none⟩ = some (.int .i64 0) ∧ w'.cell? ⟨g, 0, none⟩ = some (.int .i64 1) ∧ w'.cell? ⟨g, 1, none⟩ = some (.int .i64 0)) (by kernel_rfl) (by first | (go_keep; done) | ((repeat' apply And.intro) <;> go_simp)) (fun hHeld => ?_)
            refine wpAnyH_take (i := 0) (oi := ⟨some 28, _, _, _, _, _⟩) (v := ?_) rfl (by kernel_rfl) (by kernel_rfl) (by kernel_rfl) (fun _ _ _ h => h) (Or.inl ⟨by rfl, ?_⟩) (by assumption) ?_
            rotate_left
            · intro w hSw; (try dsimp only at hSw); go_simp; try with_reducible rfl
            try simp only [Act.put, List.setIfInBounds_toArray, List.set_cons_zero, List.set_cons_succ]
            refine wpAnyH_take (i := 1) (oi := ⟨some 29, _, _, _, _, _⟩) (v := ?_) rfl (by kernel_rfl) (by kernel_rfl) (by kernel_rfl) (fun _ _ _ h => h) (Or.inl ⟨by rfl, ?_⟩) (by assumption) ?_
            rotate_left
            · intro w hSw; (try dsimp only at hSw); go_simp; try with_reducible rfl
            try simp only [Act.put, List.setIfInBounds_toArray, List.set_cons_zero, List.set_cons_succ]
            refine wpAnyH_take (i := 2) (oi := ⟨some 30, _, _, _, _, _⟩) (v := ?_) rfl (by kernel_rfl) (by kernel_rfl) (by kernel_rfl) (fun _ _ _ h => h) (Or.inl ⟨by rfl, ?_⟩) (by assumption) ?_
            rotate_left
            · intro w hSw; (try dsimp only at hSw); go_simp; try with_reducible rfl
            try simp only [Act.put, List.setIfInBounds_toArray, List.set_cons_zero, List.set_cons_succ]
            refine wpAnyH_take (i := 3) (oi := ⟨some 31, _, _, _, _, _⟩) (v := ?_) rfl (by kernel_rfl) (by kernel_rfl) (by kernel_rfl) (fun _ _ _ h => h) (Or.inl ⟨by rfl, ?_⟩) (by assumption) ?_
            rotate_left
            · intro w hSw; (try dsimp only at hSw); go_simp; try with_reducible rfl
            try simp only [Act.put, List.setIfInBounds_toArray, List.set_cons_zero, List.set_cons_succ]
            refine wpAnyH_take (i := 4) (oi := ⟨some 32, _, _, _, _, _⟩) (v := ?_) rfl (by kernel_rfl) (by kernel_rfl) (by kernel_rfl) (fun _ _ _ h => h) (Or.inl ⟨by rfl, ?_⟩) (by assumption) ?_
            rotate_left
            · intro w hSw; (try dsimp only at hSw); go_simp; try with_reducible rfl
            try simp only [Act.put, List.setIfInBounds_toArray, List.set_cons_zero, List.set_cons_succ]
            refine wpAnyH_take (i := 5) (oi := ⟨some 33, _, _, _, _, _⟩) (v := ?_) rfl (by kernel_rfl) (by kernel_rfl) (by kernel_rfl) (fun _ _ _ h => h) (Or.inl ⟨by rfl, ?_⟩) (by assumption) ?_
            rotate_left
            · intro w hSw; (try dsimp only at hSw); go_simp; try with_reducible rfl
            try simp only [Act.put, List.setIfInBounds_toArray, List.set_cons_zero, List.set_cons_succ]
            refine wpAnyH_take (i := 6) (oi := ⟨some 34, _, _, _, _, _⟩) (v := ?_) rfl (by kernel_rfl) (by kernel_rfl) (by kernel_rfl) (fun _ _ _ h => h) (Or.inl ⟨by rfl, ?_⟩) (by assumption) ?_
            rotate_left
            · intro w hSw; (try dsimp only at hSw); go_simp; try with_reducible rfl
            try simp only [Act.put, List.setIfInBounds_toArray, List.set_cons_zero, List.set_cons_succ]
            refine wpAnyH_take (i := 7) (oi := ⟨some 35, _, _, _, _, _⟩) (v := ?_) rfl (by kernel_rfl) (by kernel_rfl) (by kernel_rfl) (fun _ _ _ h => h) (Or.inl ⟨by rfl, ?_⟩) (by assumption) ?_
            rotate_left
            · intro w hSw; (try dsimp only at hSw); go_simp; try with_reducible rfl
            try simp only [Act.put, List.setIfInBounds_toArray, List.set_cons_zero, List.set_cons_succ]
            refine wpAnyH_take (i := 8) (oi := ⟨some 36, _, _, _, _, _⟩) (v := ?_) rfl (by kernel_rfl) (by kernel_rfl) (by kernel_rfl) (fun _ _ _ h => h) (Or.inl ⟨by rfl, ?_⟩) (by assumption) ?_
            rotate_left
            · intro w hSw; (try dsimp only at hSw); go_simp; try with_reducible rfl
            try simp only [Act.put, List.setIfInBounds_toArray, List.set_cons_zero, List.set_cons_succ]
            refine wpAnyH_take (i := 9) (oi := ⟨some 37, _, _, _, _, _⟩) (v := ?_) rfl (by kernel_rfl) (by kernel_rfl) (by kernel_rfl) (fun _ _ _ h => h) (Or.inl ⟨by rfl, ?_⟩) (by assumption) ?_
            rotate_left
            · intro w hSw; (try dsimp only at hSw); go_simp; try with_reducible rfl
            try simp only [Act.put, List.setIfInBounds_toArray, List.set_cons_zero, List.set_cons_succ]
            refine wpAnyH_ready (rs := [10]) (by kernel_rfl) (by simp) ?_
            refine AllReadyH.cons (o := ⟨none, _, _, _, _, _⟩) rfl (fun KK hKK => ?_) AllReadyH.nil
            go_simp
            (try go_wp2_with fail)
            refine hKK.out _ _ (by first | (go_keep; done) | ((repeat' apply And.intro) <;> go_simp)) (fun hHeld => ?_)
            clear hKK KK
            try simp only [Act.put, List.setIfInBounds_toArray, List.set_cons_zero, List.set_cons_succ]
            refine wpAnyH_take (i := 11) (oi := ⟨some 38, _, _, _, _, _⟩) (v := ?_) rfl (by kernel_rfl) (by kernel_rfl) (by kernel_rfl) (fun _ _ _ h => h) (Or.inl ⟨by rfl, ?_⟩) (by assumption) ?_
            rotate_left
            · intro w hSw; (try dsimp only at hSw); go_simp; try with_reducible rfl
            try simp only [Act.put, List.setIfInBounds_toArray, List.set_cons_zero, List.set_cons_succ]
            refine wpAnyH_ready (rs := [12]) (by kernel_rfl) (by simp) ?_
            refine AllReadyH.cons (o := ⟨none, _, _, _, _, _⟩) rfl (fun KK hKK => ?_) AllReadyH.nil
            go_simp
            (try go_wp2_with fail)
            refine hKK.out _ _ (by first | (go_keep; done) | ((repeat' apply And.intro) <;> go_simp)) (fun hHeld => ?_)
            clear hKK KK
            try simp only [Act.put, List.setIfInBounds_toArray, List.set_cons_zero, List.set_cons_succ]
            refine wpAnyH_done (by kernel_rfl) ?_ _
            go_wp2_with fail
            go_meet
            refine ⟨rfl, ?_, ?_, ?_, ?_, ?_, ?_, (by repeat (first | with_reducible exact Below.refl _ _ | with_reducible assumption | with_reducible refine Below.setCell ?_ (by first | omega | (simp <;> omega)) _ | with_reducible refine balloc ?_ _ | with_reducible refine Below.drew ?_ | with_reducible refine bstep ?_ (by with_reducible assumption)))⟩
            all_goals go_simp
          case rest =>
            obtain ⟨rfl, k0, k1, k2, k3, k4, k5, hbx⟩ := hcut
            have HOW2 := own_below HO.out hbx
            have hbw3 : Below W2.heap.size W2 wc := hbel.trans (hbx.mono hswr)
            have hsc := hbx.size
            have z7 : w1.heap.size < wc.heap.size := World.block_lt_of_cell? _ _ k0
            go_wp2_with (at_builtin; go_must (refine wpList_append_own _ rfl _ _ 22 rfl W2.heap.size 26 i0 (.agg #[(.int .i64 0), (.int .i64 0), (.int .i64 0), (.int .i64 0), (.int .i64 0), (.int .i64 0)]) 6 48 Try.underlying22 HI.out hz0 hz1 hz2 rfl (by decide) _ _ _ rfl (HOW2.alloc _) ⟨wc.heap.size, 0, none⟩ 1 1 [(.int .i64 1), (.int .i64 0), (.int .i64 1), (.int .i64 0), (.int .i64 sa1), (.int .i64 sa2)] rfl rfl (six_new _ _ _ _ _ _ _ _) (by simp [Value.oneCell']) (by unfold maxLen; omega) (by omega) (by simp; omega) ?_); intro v1 w3 hown1 hgrow1 _)
            have hR1 := below_app hbw3 (by omega) HOW2 hgrow1
            have HR2 := Lib.hid hown1
            clear hown1 hgrow1
            go_wp2
            go_roundw
            case rel => exact ⟨0 + 1, _, by simp, by omega, rfl, by rw [HCK.out, if_neg q3, List.length_append, flatS_app]; exact HR2.out, hR1⟩
            case measure => simp [intOf] <;> omega
      · obtain rfl : k = 1 := by omega
        have HO := Lib.hid hown
        clear hown
        go_wp2
        go_ret
        refine ⟨_, rfl, ?_, hbwr⟩
        have := own_base HO.out (base' := w.heap.size) (by omega)
        rw [show noL l = noK l [(1, 0)] 1 by unfold noL; rw [HK.out]; rfl]
        exact this
  · have hK : keL l = chL l := by unfold keL; rw [if_neg h0]
    rw [hK] at hke HNO HALL
    clear hK
    obtain ⟨m, hm⟩ : ∃ m, (chL l).length = m + 1 := ⟨(chL l).length - 1, by omega⟩
    have h' := hown
    rw [hm] at h'
    obtain ⟨g, cap, e⟩ := ownsRow_succ h'
    rw [← hm] at e
    cases e
    have hgl := (hown.lt g rfl).2
    have HRV := Lib.hid (own_rowV hown (Nat.le_refl _))
    clear h' hown hb1 hm
    generalize chL l = s at *
    generalize hM : s.length = M at *
    obtain ⟨hM0, hM48⟩ := hke
    have HSL := Lib.hid hM
    clear hM
    have hbw2 := hbw1
    have hs2w := hbw1.size
    have x4 : ((M : Int) == 0) = false := by rw [beq_eq_false_iff_ne]; omega
    go_wp2_with fail
    go_loopw [4, 17] (fun s4 i wr => ∃ (k : Nat) (vo : Value), i = (.int .i64 k) ∧ k ≤ M ∧ vo = s4 ∧ wr.ownsRow W1.heap.size 26 6 vo (noK l s k).length (flatS (noK l s k)) ∧ Below W1.heap.size W1 wr) (fun _ i _ => M - (intOf i).toNat)
    case atStart => exact ⟨0, _, rfl, by omega, rfl, World.ownsRow_nil _ _ _ _, Below.refl _ _⟩
    case round =>
      obtain ⟨k, vo, rfl, hk, rfl, hown, hbel⟩ := hrel
      have hbwr : Below w.heap.size w wr := hbw2.trans (hbel.mono hs2w)
      have hswr := hbel.size
      have hsw2 := hbwr.size
      have hgw : g < wr.heap.size := by omega
      by_cases hlt : k < M
      · have hrr := HRV.out.below hgl hbel
        obtain ⟨j, hj⟩ : ∃ j, (k + 1) % M = j := ⟨_, rfl⟩
        have hjl : j < M := by rw [← hj]; exact Nat.mod_lt _ (by omega)
        obtain ⟨c1, c2⟩ := hrr k (by rw [HSL.out]; exact hlt)
        obtain ⟨d1, d2⟩ := hrr j (by rw [HSL.out]; exact hjl)
        simp only [Nat.zero_add] at c1 c2 d1 d2
        have HCK := Lib.hid (show noK l s (k + 1) = noK l s k ++ if shL l (gv s k) = (0, 0) then [] else [mkS (gv s k) (gv s ((k + 1) % s.length)) (shL l (gv s k))] from rfl)
        rw [HSL.out, hj] at HCK
        have hva := HALL.out k (by first | exact hlt | (rw [HSL.out]; exact hlt))
        have x2 : IntKind.i64.wrap ((k : Int) + 1) = (k : Int) + 1 := IntWalk.i64_in _ (by omega)
        have x3 : Int.tmod ((k : Int) + 1) (M : Int) = (j : Int) := by
          rw [Int.tmod_eq_emod_of_nonneg (by omega), ← hj]
          simp
        have x5 : (M == 0) = false := by rw [beq_eq_false_iff_ne]; omega
        have x6 : ¬ (M = 0) := by omega
        have hckl := noK_len l s k
        clear hrr hj
        generalize gv s k = pa1 at *
        generalize gv s j = pb1 at *
        obtain ⟨a1, a2⟩ := pa1
        obtain ⟨b1, b2⟩ := pb1
        dsimp only at c1 c2 d1 d2
        have CA : ∀ W', Below w.heap.size w W' → Calls Try.prog 39 #[(.slice pa l.length ca), .agg #[(.int .i64 a1), (.int .i64 a2)]] W' (Ret W' (.agg #[(.int .i64 0), (.int .i64 0), (.int .i64 0), (.int .i64 0), (.int .i64 ((shL l (a1, a2)).1)), (.int .i64 ((shL l (a1, a2)).2))])) := fun W' h => shown_s a1 a2 (HSA.out W' h) a24 alla (okD_W hva)
        generalize shL l (a1, a2) = sa at *
        obtain ⟨sa1, sa2⟩ := sa
        dsimp only at CA
        have HO := Lib.hid hown
        clear hown
        go_wp2_with fail
        refine Calls.mono (CA _ (by repeat (first | with_reducible exact Below.refl _ _ | with_reducible assumption | with_reducible refine Below.setCell ?_ (by first | omega | (simp <;> omega)) _ | with_reducible refine balloc ?_ _ | with_reducible refine Below.drew ?_ | with_reducible refine bstep ?_ (by with_reducible assumption)))) ?_
        rintro e w1 ⟨rfl, hb1⟩
        have hb1X : Below wr.heap.size wr w1 := (by repeat (first | with_reducible exact Below.refl _ _ | with_reducible assumption | with_reducible refine Below.setCell ?_ (by first | omega | (simp <;> omega)) _ | with_reducible refine balloc ?_ _ | with_reducible refine Below.drew ?_ | with_reducible refine bstep ?_ (by with_reducible assumption)))
        have hb1B : Below w.heap.size w w1 := hbwr.trans (hb1X.mono hsw2)
        have hb1s := hb1.size
        (try simp at hb1s)
        obtain ⟨hc1, _⟩ := bcell hb1
        have g7 := fun o => hc1 wr.heap.size o (by first | omega | (simp <;> omega))
        have gg := fun o => hc1 g o (by first | omega | (simp <;> omega))
        clear hc1 hb1 hb1B
        have zg : g < w1.heap.size := by omega
        have zw : wr.heap.size < w1.heap.size := by omega
        have zne : g ≠ w1.heap.size := by omega
        have zne2 : wr.heap.size ≠ w1.heap.size := by omega
        by_cases q1 : sa1 = 0
        · by_cases q2 : sa2 = 0
          · subst q1 q2
            go_wp2
            go_roundw
            case rel => exact ⟨k + 1, _, by simp, by omega, rfl, by rw [show noK l s (k + 1) = noK l s k by rw [HCK.out]; simp]; exact own_below HO.out (by repeat (first | with_reducible exact Below.refl _ _ | with_reducible assumption | with_reducible refine Below.setCell ?_ (by first | omega | (simp <;> omega)) _ | with_reducible refine balloc ?_ _ | with_reducible refine Below.drew ?_ | with_reducible refine bstep ?_ (by with_reducible assumption))), hbel.trans ((show Below wr.heap.size wr _ from (by repeat (first | with_reducible exact Below.refl _ _ | with_reducible assumption | with_reducible refine Below.setCell ?_ (by first | omega | (simp <;> omega)) _ | with_reducible refine balloc ?_ _ | with_reducible refine Below.drew ?_ | with_reducible refine bstep ?_ (by with_reducible assumption)))).mono hswr)⟩
            case measure => simp [intOf] <;> omega
          · have q3 : ¬ ((sa1, sa2) = ((0 : Int), (0 : Int))) := fun h => q2 (congrArg Prod.snd h)
            subst q1
            go_upto_region 10 with fail
            go_cut [7] (fun q7 wx => q7 = .pointer (some ⟨w1.heap.size, 0, none⟩) ∧ wx.cell? ⟨w1.heap.size, 0, none⟩ = some (.int .i64 a1) ∧ wx.cell? ⟨w1.heap.size, 1, none⟩ = some (.int .i64 a2) ∧ wx.cell? ⟨w1.heap.size, 2, none⟩ = some (.int .i64 b1) ∧ wx.cell? ⟨w1.heap.size, 3, none⟩ = some (.int .i64 b2) ∧ wx.cell? ⟨w1.heap.size, 4, none⟩ = some (.int .i64 0) ∧ wx.cell? ⟨w1.heap.size, 5, none⟩ = some (.int .i64 sa2) ∧ Below wr.heap.size wr wx)
            case first =>
              refine wp_region_held_drew (S := fun w' => w'.cell? ⟨wr.heap.size, 0, none⟩ = some (.int .i64 a1) ∧ w'.cell? ⟨wr.heap.size, 1, none⟩ = some (.int .i64 a2) ∧ w'.cell? ⟨g, j * 2, none⟩ = some (.int .i64 b1) ∧ w'.cell? ⟨g, j * 2 + 1, none⟩ = some (.int .i64 b2)) (by kernel_rfl) (by first | (go_keep; done) | ((repeat' apply And.intro) <;> go_simp)) (fun hHeld => ?_)
              refine wpAnyH_take (i := 0) (oi := ⟨some 28, _, _, _, _, _⟩) (v := ?_) rfl (by kernel_rfl) (by kernel_rfl) (by kernel_rfl) (fun _ _ _ h => h) (Or.inl ⟨by rfl, ?_⟩) (by assumption) ?_
              rotate_left
              · intro w hSw; (try dsimp only at hSw); go_simp; try with_reducible rfl
              try simp only [Act.put, List.setIfInBounds_toArray, List.set_cons_zero, List.set_cons_succ]
              refine wpAnyH_take (i := 1) (oi := ⟨some 29, _, _, _, _, _⟩) (v := ?_) rfl (by kernel_rfl) (by kernel_rfl) (by kernel_rfl) (fun _ _ _ h => h) (Or.inl ⟨by rfl, ?_⟩) (by assumption) ?_
              rotate_left
              · intro w hSw; (try dsimp only at hSw); go_simp; try with_reducible rfl
              try simp only [Act.put, List.setIfInBounds_toArray, List.set_cons_zero, List.set_cons_succ]
              refine wpAnyH_take (i := 2) (oi := ⟨some 30, _, _, _, _, _⟩) (v := ?_) rfl (by kernel_rfl) (by kernel_rfl) (by kernel_rfl) (fun _ _ _ h => h) (Or.inl ⟨by rfl, ?_⟩) (by assumption) ?_
              rotate_left
              · intro w hSw; (try dsimp only at hSw); go_simp; try with_reducible rfl
              try simp only [Act.put, List.setIfInBounds_toArray, List.set_cons_zero, List.set_cons_succ]
              refine wpAnyH_take (i := 3) (oi := ⟨some 31, _, _, _, _, _⟩) (v := ?_) rfl (by kernel_rfl) (by kernel_rfl) (by kernel_rfl) (fun _ _ _ h => h) (Or.inl ⟨by rfl, ?_⟩) (by assumption) ?_
              rotate_left
              · intro w hSw; (try dsimp only at hSw); go_simp; try with_reducible rfl
              try simp only [Act.put, List.setIfInBounds_toArray, List.set_cons_zero, List.set_cons_succ]
              refine wpAnyH_take (i := 4) (oi := ⟨some 32, _, _, _, _, _⟩) (v := ?_) rfl (by kernel_rfl) (by kernel_rfl) (by kernel_rfl) (fun _ _ _ h => h) (Or.inl ⟨by rfl, ?_⟩) (by assumption) ?_
              rotate_left
              · intro w hSw; (try dsimp only at hSw); go_simp; try with_reducible rfl
              try simp only [Act.put, List.setIfInBounds_toArray, List.set_cons_zero, List.set_cons_succ]
              refine wpAnyH_take (i := 5) (oi := ⟨some 33, _, _, _, _, _⟩) (v := ?_) rfl (by kernel_rfl) (by kernel_rfl) (by kernel_rfl) (fun _ _ _ h => h) (Or.inl ⟨by rfl, ?_⟩) (by assumption) ?_
              rotate_left
              · intro w hSw; (try dsimp only at hSw); go_simp; try with_reducible rfl
              try simp only [Act.put, List.setIfInBounds_toArray, List.set_cons_zero, List.set_cons_succ]
              refine wpAnyH_take (i := 6) (oi := ⟨some 34, _, _, _, _, _⟩) (v := ?_) rfl (by kernel_rfl) (by kernel_rfl) (by kernel_rfl) (fun _ _ _ h => h) (Or.inl ⟨by rfl, ?_⟩) (by assumption) ?_
              rotate_left
              · intro w hSw; (try dsimp only at hSw); go_simp; try with_reducible rfl
              try simp only [Act.put, List.setIfInBounds_toArray, List.set_cons_zero, List.set_cons_succ]
              refine wpAnyH_take (i := 7) (oi := ⟨some 35, _, _, _, _, _⟩) (v := ?_) rfl (by kernel_rfl) (by kernel_rfl) (by kernel_rfl) (fun _ _ _ h => h) (Or.inl ⟨by rfl, ?_⟩) (by assumption) ?_
              rotate_left
              · intro w hSw; (try dsimp only at hSw); go_simp; try with_reducible rfl
              try simp only [Act.put, List.setIfInBounds_toArray, List.set_cons_zero, List.set_cons_succ]
              refine wpAnyH_take (i := 8) (oi := ⟨some 36, _, _, _, _, _⟩) (v := ?_) rfl (by kernel_rfl) (by kernel_rfl) (by kernel_rfl) (fun _ _ _ h => h) (Or.inl ⟨by rfl, ?_⟩) (by assumption) ?_
              rotate_left
              · intro w hSw; (try dsimp only at hSw); go_simp; try with_reducible rfl
              try simp only [Act.put, List.setIfInBounds_toArray, List.set_cons_zero, List.set_cons_succ]
              refine wpAnyH_take (i := 9) (oi := ⟨some 37, _, _, _, _, _⟩) (v := ?_) rfl (by kernel_rfl) (by kernel_rfl) (by kernel_rfl) (fun _ _ _ h => h) (Or.inl ⟨by rfl, ?_⟩) (by assumption) ?_
              rotate_left
              · intro w hSw; (try dsimp only at hSw); go_simp; try with_reducible rfl
              try simp only [Act.put, List.setIfInBounds_toArray, List.set_cons_zero, List.set_cons_succ]
              refine wpAnyH_ready (rs := [10]) (by kernel_rfl) (by simp) ?_
              refine AllReadyH.cons (o := ⟨none, _, _, _, _, _⟩) rfl (fun KK hKK => ?_) AllReadyH.nil
              go_simp
              (try go_wp2_with fail)
              refine hKK.out _ _ (by first | (go_keep; done) | ((repeat' apply And.intro) <;> go_simp)) (fun hHeld => ?_)
              clear hKK KK
              try simp only [Act.put, List.setIfInBounds_toArray, List.set_cons_zero, List.set_cons_succ]
              refine wpAnyH_take (i := 11) (oi := ⟨some 38, _, _, _, _, _⟩) (v := ?_) rfl (by kernel_rfl) (by kernel_rfl) (by kernel_rfl) (fun _ _ _ h => h) (Or.inl ⟨by rfl, ?_⟩) (by assumption) ?_
              rotate_left
              · intro w hSw; (try dsimp only at hSw); go_simp; try with_reducible rfl
              try simp only [Act.put, List.setIfInBounds_toArray, List.set_cons_zero, List.set_cons_succ]
              refine wpAnyH_ready (rs := [12]) (by kernel_rfl) (by simp) ?_
              refine AllReadyH.cons (o := ⟨none, _, _, _, _, _⟩) rfl (fun KK hKK => ?_) AllReadyH.nil
              go_simp
              (try go_wp2_with fail)
              refine hKK.out _ _ (by first | (go_keep; done) | ((repeat' apply And.intro) <;> go_simp)) (fun hHeld => ?_)
              clear hKK KK
              try simp only [Act.put, List.setIfInBounds_toArray, List.set_cons_zero, List.set_cons_succ]
              refine wpAnyH_done (by kernel_rfl) ?_ _
              go_wp2_with fail
              go_meet
              refine ⟨rfl, ?_, ?_, ?_, ?_, ?_, ?_, (by repeat (first | with_reducible exact Below.refl _ _ | with_reducible assumption | with_reducible refine Below.setCell ?_ (by first | omega | (simp <;> omega)) _ | with_reducible refine balloc ?_ _ | with_reducible refine Below.drew ?_ | with_reducible refine bstep ?_ (by with_reducible assumption)))⟩
              all_goals go_simp
            case rest =>
              obtain ⟨rfl, k0, k1, k2, k3, k4, k5, hbx⟩ := hcut
              have HOW1 := own_below HO.out hbx
              have hbw3 : Below W1.heap.size W1 wc := hbel.trans (hbx.mono hswr)
              have hsc := hbx.size
              have z7 : w1.heap.size < wc.heap.size := World.block_lt_of_cell? _ _ k0
              go_wp2_with (at_builtin; go_must (refine wpList_append_own _ rfl _ _ 22 rfl W1.heap.size 26 i0 (.agg #[(.int .i64 0), (.int .i64 0), (.int .i64 0), (.int .i64 0), (.int .i64 0), (.int .i64 0)]) 6 48 Try.underlying22 HI.out hz0 hz1 hz2 rfl (by decide) _ _ _ rfl (HOW1.alloc _) ⟨wc.heap.size, 0, none⟩ 1 1 [(.int .i64 a1), (.int .i64 a2), (.int .i64 b1), (.int .i64 b2), (.int .i64 0), (.int .i64 sa2)] rfl rfl (six_new _ _ _ _ _ _ _ _) (by simp [Value.oneCell']) (by unfold maxLen; omega) (by omega) (by simp; omega) ?_); intro v1 w3 hown1 hgrow1 _)
              have hR1 := below_app hbw3 (by omega) HOW1 hgrow1
              have HR2 := Lib.hid hown1
              clear hown1 hgrow1
              go_wp2
              go_roundw
              case rel => exact ⟨k + 1, _, by simp, by omega, rfl, by rw [HCK.out, if_neg q3, List.length_append, flatS_app]; exact HR2.out, hR1⟩
              case measure => simp [intOf] <;> omega
        · have q3 : ¬ ((sa1, sa2) = ((0 : Int), (0 : Int))) := fun h => q1 (congrArg Prod.fst h)
          go_upto_region 10 with fail
          go_cut [7] (fun q7 wx => q7 = .pointer (some ⟨w1.heap.size, 0, none⟩) ∧ wx.cell? ⟨w1.heap.size, 0, none⟩ = some (.int .i64 a1) ∧ wx.cell? ⟨w1.heap.size, 1, none⟩ = some (.int .i64 a2) ∧ wx.cell? ⟨w1.heap.size, 2, none⟩ = some (.int .i64 b1) ∧ wx.cell? ⟨w1.heap.size, 3, none⟩ = some (.int .i64 b2) ∧ wx.cell? ⟨w1.heap.size, 4, none⟩ = some (.int .i64 sa1) ∧ wx.cell? ⟨w1.heap.size, 5, none⟩ = some (.int .i64 sa2) ∧ Below wr.heap.size wr wx)
          case first =>
            refine wp_region_held_drew (S := fun w' => w'.cell? ⟨wr.heap.size, 0, none⟩ = some (.int .i64 a1) ∧ w'.cell? ⟨wr.heap.size, 1, none⟩ = some (.int .i64 a2) ∧ w'.cell? ⟨g, j * 2, none⟩ = some (.int .i64 b1) ∧ w'.cell? ⟨g, j * 2 + 1, none⟩ = some (.int .i64 b2)) (by kernel_rfl) (by first | (go_keep; done) | ((repeat' apply And.intro) <;> go_simp)) (fun hHeld => ?_)
            refine wpAnyH_take (i := 0) (oi := ⟨some 28, _, _, _, _, _⟩) (v := ?_) rfl (by kernel_rfl) (by kernel_rfl) (by kernel_rfl) (fun _ _ _ h => h) (Or.inl ⟨by rfl, ?_⟩) (by assumption) ?_
            rotate_left
            · intro w hSw; (try dsimp only at hSw); go_simp; try with_reducible rfl
            try simp only [Act.put, List.setIfInBounds_toArray, List.set_cons_zero, List.set_cons_succ]
            refine wpAnyH_take (i := 1) (oi := ⟨some 29, _, _, _, _, _⟩) (v := ?_) rfl (by kernel_rfl) (by kernel_rfl) (by kernel_rfl) (fun _ _ _ h => h) (Or.inl ⟨by rfl, ?_⟩) (by assumption) ?_
            rotate_left
            · intro w hSw; (try dsimp only at hSw); go_simp; try with_reducible rfl
            try simp only [Act.put, List.setIfInBounds_toArray, List.set_cons_zero, List.set_cons_succ]
            refine wpAnyH_take (i := 2) (oi := ⟨some 30, _, _, _, _, _⟩) (v := ?_) rfl (by kernel_rfl) (by kernel_rfl) (by kernel_rfl) (fun _ _ _ h => h) (Or.inl ⟨by rfl, ?_⟩) (by assumption) ?_
            rotate_left
            · intro w hSw; (try dsimp only at hSw); go_simp; try with_reducible rfl
            try simp only [Act.put, List.setIfInBounds_toArray, List.set_cons_zero, List.set_cons_succ]
            refine wpAnyH_take (i := 3) (oi := ⟨some 31, _, _, _, _, _⟩) (v := ?_) rfl (by kernel_rfl) (by kernel_rfl) (by kernel_rfl) (fun _ _ _ h => h) (Or.inl ⟨by rfl, ?_⟩) (by assumption) ?_
            rotate_left
            · intro w hSw; (try dsimp only at hSw); go_simp; try with_reducible rfl
            try simp only [Act.put, List.setIfInBounds_toArray, List.set_cons_zero, List.set_cons_succ]
            refine wpAnyH_take (i := 4) (oi := ⟨some 32, _, _, _, _, _⟩) (v := ?_) rfl (by kernel_rfl) (by kernel_rfl) (by kernel_rfl) (fun _ _ _ h => h) (Or.inl ⟨by rfl, ?_⟩) (by assumption) ?_
            rotate_left
            · intro w hSw; (try dsimp only at hSw); go_simp; try with_reducible rfl
            try simp only [Act.put, List.setIfInBounds_toArray, List.set_cons_zero, List.set_cons_succ]
            refine wpAnyH_take (i := 5) (oi := ⟨some 33, _, _, _, _, _⟩) (v := ?_) rfl (by kernel_rfl) (by kernel_rfl) (by kernel_rfl) (fun _ _ _ h => h) (Or.inl ⟨by rfl, ?_⟩) (by assumption) ?_
            rotate_left
            · intro w hSw; (try dsimp only at hSw); go_simp; try with_reducible rfl
            try simp only [Act.put, List.setIfInBounds_toArray, List.set_cons_zero, List.set_cons_succ]
            refine wpAnyH_take (i := 6) (oi := ⟨some 34, _, _, _, _, _⟩) (v := ?_) rfl (by kernel_rfl) (by kernel_rfl) (by kernel_rfl) (fun _ _ _ h => h) (Or.inl ⟨by rfl, ?_⟩) (by assumption) ?_
            rotate_left
            · intro w hSw; (try dsimp only at hSw); go_simp; try with_reducible rfl
            try simp only [Act.put, List.setIfInBounds_toArray, List.set_cons_zero, List.set_cons_succ]
            refine wpAnyH_take (i := 7) (oi := ⟨some 35, _, _, _, _, _⟩) (v := ?_) rfl (by kernel_rfl) (by kernel_rfl) (by kernel_rfl) (fun _ _ _ h => h) (Or.inl ⟨by rfl, ?_⟩) (by assumption) ?_
            rotate_left
            · intro w hSw; (try dsimp only at hSw); go_simp; try with_reducible rfl
            try simp only [Act.put, List.setIfInBounds_toArray, List.set_cons_zero, List.set_cons_succ]
            refine wpAnyH_take (i := 8) (oi := ⟨some 36, _, _, _, _, _⟩) (v := ?_) rfl (by kernel_rfl) (by kernel_rfl) (by kernel_rfl) (fun _ _ _ h => h) (Or.inl ⟨by rfl, ?_⟩) (by assumption) ?_
            rotate_left
            · intro w hSw; (try dsimp only at hSw); go_simp; try with_reducible rfl
            try simp only [Act.put, List.setIfInBounds_toArray, List.set_cons_zero, List.set_cons_succ]
            refine wpAnyH_take (i := 9) (oi := ⟨some 37, _, _, _, _, _⟩) (v := ?_) rfl (by kernel_rfl) (by kernel_rfl) (by kernel_rfl) (fun _ _ _ h => h) (Or.inl ⟨by rfl, ?_⟩) (by assumption) ?_
            rotate_left
            · intro w hSw; (try dsimp only at hSw); go_simp; try with_reducible rfl
            try simp only [Act.put, List.setIfInBounds_toArray, List.set_cons_zero, List.set_cons_succ]
            refine wpAnyH_ready (rs := [10]) (by kernel_rfl) (by simp) ?_
            refine AllReadyH.cons (o := ⟨none, _, _, _, _, _⟩) rfl (fun KK hKK => ?_) AllReadyH.nil
            go_simp
            (try go_wp2_with fail)
            refine hKK.out _ _ (by first | (go_keep; done) | ((repeat' apply And.intro) <;> go_simp)) (fun hHeld => ?_)
            clear hKK KK
            try simp only [Act.put, List.setIfInBounds_toArray, List.set_cons_zero, List.set_cons_succ]
            refine wpAnyH_take (i := 11) (oi := ⟨some 38, _, _, _, _, _⟩) (v := ?_) rfl (by kernel_rfl) (by kernel_rfl) (by kernel_rfl) (fun _ _ _ h => h) (Or.inl ⟨by rfl, ?_⟩) (by assumption) ?_
            rotate_left
            · intro w hSw; (try dsimp only at hSw); go_simp; try with_reducible rfl
            try simp only [Act.put, List.setIfInBounds_toArray, List.set_cons_zero, List.set_cons_succ]
            refine wpAnyH_ready (rs := [12]) (by kernel_rfl) (by simp) ?_
            refine AllReadyH.cons (o := ⟨none, _, _, _, _, _⟩) rfl (fun KK hKK => ?_) AllReadyH.nil
            go_simp
            (try go_wp2_with fail)
            refine hKK.out _ _ (by first | (go_keep; done) | ((repeat' apply And.intro) <;> go_simp)) (fun hHeld => ?_)
            clear hKK KK
            try simp only [Act.put, List.setIfInBounds_toArray, List.set_cons_zero, List.set_cons_succ]
            refine wpAnyH_done (by kernel_rfl) ?_ _
            go_wp2_with fail
            go_meet
            refine ⟨rfl, ?_, ?_, ?_, ?_, ?_, ?_, (by repeat (first | with_reducible exact Below.refl _ _ | with_reducible assumption | with_reducible refine Below.setCell ?_ (by first | omega | (simp <;> omega)) _ | with_reducible refine balloc ?_ _ | with_reducible refine Below.drew ?_ | with_reducible refine bstep ?_ (by with_reducible assumption)))⟩
            all_goals go_simp
          case rest =>
            obtain ⟨rfl, k0, k1, k2, k3, k4, k5, hbx⟩ := hcut
            have HOW1 := own_below HO.out hbx
            have hbw3 : Below W1.heap.size W1 wc := hbel.trans (hbx.mono hswr)
            have hsc := hbx.size
            have z7 : w1.heap.size < wc.heap.size := World.block_lt_of_cell? _ _ k0
            go_wp2_with (at_builtin; go_must (refine wpList_append_own _ rfl _ _ 22 rfl W1.heap.size 26 i0 (.agg #[(.int .i64 0), (.int .i64 0), (.int .i64 0), (.int .i64 0), (.int .i64 0), (.int .i64 0)]) 6 48 Try.underlying22 HI.out hz0 hz1 hz2 rfl (by decide) _ _ _ rfl (HOW1.alloc _) ⟨wc.heap.size, 0, none⟩ 1 1 [(.int .i64 a1), (.int .i64 a2), (.int .i64 b1), (.int .i64 b2), (.int .i64 sa1), (.int .i64 sa2)] rfl rfl (six_new _ _ _ _ _ _ _ _) (by simp [Value.oneCell']) (by unfold maxLen; omega) (by omega) (by simp; omega) ?_); intro v1 w3 hown1 hgrow1 _)
            have hR1 := below_app hbw3 (by omega) HOW1 hgrow1
            have HR2 := Lib.hid hown1
            clear hown1 hgrow1
            go_wp2
            go_roundw
            case rel => exact ⟨k + 1, _, by simp, by omega, rfl, by rw [HCK.out, if_neg q3, List.length_append, flatS_app]; exact HR2.out, hR1⟩
            case measure => simp [intOf] <;> omega
      · obtain rfl : k = M := by omega
        have HO := Lib.hid hown
        clear hown
        go_wp2
        go_ret
        refine ⟨_, rfl, ?_, hbwr⟩
        have := own_base HO.out (base' := w.heap.size) (by omega)
        rw [HNO.out]
        exact this


end Go.Proofs.Ytpadkmlckmopfaa.Se
