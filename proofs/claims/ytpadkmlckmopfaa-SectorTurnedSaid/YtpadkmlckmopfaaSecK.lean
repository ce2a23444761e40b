/- SecK: turns, ranged over. -/
import Derived.Test.YtpadkmlckmopfaaSecJ
import Derived.Test.YtpadkmlckmopfaaSecO
import Derived.RangeFuncNested
import Derived.RangeFuncBound
import Derived.RangeFuncCalls
import Derived.RangeFuncLeaves
import Derived.Shelf.Abstract
import Derived.Shelf.RegionOpen
import Derived.WalkKit
import Derived.OwnWalkIn
import Derived.TacticsInMore
import Derived.LoopNIn
import Derived.LoopIn
import Derived.Outline
import Derived.IntWalk
import Derived.Lib.Hide
import Derived.StillTailTactics
import Derived.BigRegion
import Derived.Deep.RegionWith
import Derived.RangeFuncBox
import Derived.Maps.AppendAt
namespace Go.Proofs.Ytpadkmlckmopfaa.Se
open Go.RowKit Go.Shelf
set_option linter.unusedSimpArgs false
set_option linter.unusedVariables false

attribute [local go_sem] Oper.semAt_some
abbrev Di := { v : V // okD v = true }
instance : Inhabited Di := ⟨⟨(1, 0), by decide⟩⟩
def toD (v : V) : Di := if h : okD v = true then ⟨v, h⟩ else default
theorem toD_val {v : V} (h : okD v = true) : (toD v).1 = v := by unfold toD; rw [dif_pos h]
def tdf (l : List Sec) (j : Nat) : Di := toD (if j % 2 = 0 then (gs l (j / 2)).fr else (gs l (j / 2)).to)
theorem tdf_even {l : List Sec} {k : Nat} (h : vaS (gs l k) = true) : (tdf l (2 * k)).1 = (gs l k).fr := by
  unfold tdf
  rw [if_pos (by omega), show 2 * k / 2 = k by omega]
  exact toD_val (vaS_iff.1 h).1
theorem tdf_odd {l : List Sec} {k : Nat} (h : vaS (gs l k) = true) : (tdf l (2 * k + 1)).1 = (gs l k).to := by
  unfold tdf
  rw [if_neg (by omega), show (2 * k + 1) / 2 = k by omega]
  exact toD_val (vaS_iff.1 h).2.1
/-- The turns of a light. -/
def tuD (l : List Sec) : List Di := upto (tdf l) (2 * l.length)
theorem upto_prefix {α : Type} (f : Nat → α) {k n : Nat} (h : k ≤ n) : upto f k <+: upto f n := by
  obtain ⟨m, rfl⟩ := Nat.exists_eq_add_of_le h
  induction m with
  | zero => exact List.prefix_refl _
  | succ m ih => rw [← Nat.add_assoc, upto_succ]; exact (ih (by omega)).trans (List.prefix_append _ _)
theorem tuD_val {l : List Sec} (h : allS l) : (tuD l).map (·.1) = tuL l := by
  have key : ∀ k, k ≤ l.length → (upto (tdf l) (2 * k)).map (·.1) = tuL (l.take k) := by
    intro k hk
    induction k with
    | zero => rfl
    | succ k ih =>
      have hv := h k (by omega)
      rw [show 2 * (k + 1) = 2 * k + 1 + 1 by omega, upto_succ, upto_succ, take_succ_gs (by omega)]
      simp only [List.map_append, ih (by omega), List.map_cons, List.map_nil, tdf_even hv, tdf_odd hv]
      simp [tuL]
  have := key l.length (Nat.le_refl _)
  rwa [List.take_length] at this
def encD (x : Di) : Array Value := #[.agg #[(.int .i64 (x.1.1)), (.int .i64 (x.1.2))]]

/-- What a round leaves of the sectors that lie in memory: all, but those of M. -/
structure Kee (M : List Nat) (A B : World) : Prop where
  size : A.heap.size ≤ B.heap.size
  cells : ∀ k c z, k ∉ M → A.heap[k]? = some (.cells c 26 z) → B.heap[k]? = some (.cells c 26 z)
theorem Kee.refl (M : List Nat) (A : World) : Kee M A A := ⟨Nat.le_refl _, fun _ _ _ _ h => h⟩
theorem Kee.trans {M : List Nat} {A B C : World} (h : Kee M A B) (k : Kee M B C) : Kee M A C := ⟨Nat.le_trans h.size k.size, fun i c z hn hi => k.cells i c z hn (h.cells i c z hn hi)⟩
theorem Kee.below {M : List Nat} {A B : World} (h : Below A.heap.size A B) : Kee M A B := ⟨h.size, fun i c z _ hi => (h.block i (Array.getElem?_eq_some_iff.1 hi).1).trans hi⟩
theorem Kee.putObj {M : List Nat} {W : World} {l : Nat} {o : Obj} (o' : Obj) (h : W.heap[l]? = some o) (h1 : o.isCells = false) : Kee M W (W.putObj l o') :=
  ⟨by simp [World.putObj], fun i c z _ hi => by
    by_cases e : i = l
    · subst e; rw [hi] at h; cases h; cases h1
    · have hg := grownBy_putObj' W l o'
      exact (hg.block i (Array.getElem?_eq_some_iff.1 hi).1 (by simpa using e)).trans hi⟩
theorem Kee.grown {M : List Nat} {A B : World} {row : Option Nat} (h : A.grownBy B row) (hr : ∀ g c z, row = some g → A.heap[g]? ≠ some (.cells c 26 z)) : Kee M A B :=
  ⟨h.size, fun i c z _ hi => (h.block i (Array.getElem?_eq_some_iff.1 hi).1 (fun e => hr i c z e.symm hi)).trans hi⟩
theorem Kee.row {M : List Nat} {A B : World} (h : Kee M A B) {b off : Nat} {l : List Sec} {c : Array Value} {z : _} (hr : Row A b off l) (hc : A.heap[b]? = some (.cells c 26 z)) (hn : b ∉ M) : Row B b off l :=
  hr.move fun o => by
    have := h.cells b c z hn hc
    simp only [World.cell?, this, hc]
theorem Kee.set {M : List Nat} {A B : World} (h : Kee M A B) {p : Addr} (hp : p.block ∈ M) (u : Value) : Kee M A (B.setCell p u) :=
  h.trans ⟨by simp [World.setCell], fun i c z hn hi => (Below.heap_setCell _ _ _ _ (fun e => by subst e; exact hn hp)).trans hi⟩
theorem own_heap {W : World} {base g n cap : Nat} {e : TypeId} {size : Nat} {xs : List Value} (h : W.ownsRow base e size (.slice (some ⟨g, 0, none⟩) n cap) n xs) : ∃ cur z, W.heap[g]? = some (.cells cur e z) := by
  rcases h.2 with ⟨h, _⟩ | ⟨g', cap', cur, hv, hb, hc, _⟩
  · cases h
  · cases hv; exact ⟨cur, _, hc⟩
structure Kp (M : List Nat) (m : Nat) (A B : World) : Prop where
  but : But M m A B
  kee : Kee M A B
theorem Kp.refl (M : List Nat) (m : Nat) (A : World) : Kp M m A A := ⟨But.refl _ _ _, Kee.refl _ _⟩
theorem Kp.trans {M : List Nat} {m : Nat} {A B C : World} (h : Kp M m A B) (k : Kp M m B C) : Kp M m A C := ⟨h.but.trans k.but, h.kee.trans k.kee⟩
theorem Kp.below {M : List Nat} {m : Nat} {A B : World} (h : Below A.heap.size A B) (hm : m ≤ A.heap.size) : Kp M m A B := ⟨But.of_below h hm, Kee.below h⟩
theorem Kp.set {M : List Nat} {m : Nat} {A B : World} (h : Kp M m A B) {p : Addr} (hp : p.block ∈ M) (u : Value) : Kp M m A (B.setCell p u) := ⟨h.but.set hp u, h.kee.set hp u⟩
theorem Kp.alloc {M : List Nat} {m : Nat} {A B : World} (h : Kp M m A B) (hm : m ≤ B.heap.size) (o : Obj) : Kp M m A (B.alloc o) :=
  h.trans (Kp.below ((Below.refl _ B).alloc (Nat.le_refl _) o) hm)
theorem kp_t {M : List Nat} {m : Nat} {A B C : World} (h : Kp M m A B) (k : Kp M m B C) : Kp M m A C := h.trans k
theorem kp_b {M : List Nat} {m : Nat} {w : World} (hn : m ≤ w.heap.size) (W : World) (l : Nat) (o o' : Obj) (hl : w.heap.size ≤ l) (h : W.heap[l]? = some o) (h1 : o.isCells = false) (h2 : o.isWalk = false) : Kp M m W (W.putObj l o') :=
  ⟨but_b hn W l o o' hl h h1 h2, Kee.putObj o' h h1⟩
theorem ownFrom_kp {β : Type} {M : List Nat} {m B : Nat} {w₀ : World} (hB : m ≤ B) (hs : m ≤ w₀.heap.size) : OwnFrom B (fun (_ : β) W => Kp M m w₀ W) := by
  intro s X Y row h hg hr
  refine ⟨ownFrom_but (β := β) hB hs s X Y row h.but hg hr, h.kee.trans ⟨hg.size, fun i c z hn hi => ?_⟩⟩
  refine (hg.block i (Array.getElem?_eq_some_iff.1 hi).1 (fun e => ?_)).trans hi
  obtain ⟨_, ob, ho, hc⟩ := hr i e.symm
  rw [hi] at ho
  cases ho
  cases hc

/-- The lights ls lie as values in block gq. -/
structure Lis (w : World) (gq : Nat) (ls : List (List Sec)) (f : Nat → Value) : Prop where
  pos : 0 < ls.length
  four : ls.length ≤ 4
  len : ∀ i, i < ls.length → (gl ls i).length ≤ 24
  cell : ∀ i, i < ls.length → w.cell? ⟨gq, i, none⟩ = some (f i) ∧ Secs w (f i) (gl ls i)

theorem yres2 {A B : World → Prop} {e : Ending} {W : World} (h : (e = .returned (.bool true) ∧ A W) ∨ (e = .returned (.bool false) ∧ B W)) : (e = .returned (.bool true) ∧ Hid (A W)) ∨ (e = .returned (.bool false) ∧ Hid (B W)) := h

set_option maxRecDepth 100000 in
set_option maxHeartbeats 4000000 in
theorem turns1_in (n : Nat) (hn : 1 ≤ n) (ll Bs n₀ gq : Nat) (ls : List (List Sec)) (f : Nat → Value) (M : List Nat) (hM : ∀ m ∈ M, m < n₀) (hall : allS ls.flatten) (J Jx : List Di → World → Prop)
    (hY : ∀ pre x W, J pre W → pre.length < 2 * ls.flatten.length → YieldAt Fence.wide (n - 1) Try.prog ll (encD x) W fun e W' =>
      (e = .returned (.bool true) ∧ J (pre ++ [x]) W' ∧ Kp M n₀ W W') ∨ (e = .returned (.bool false) ∧ Jx (pre ++ [x]) W'))
    (W : World) (hBs : W.cell? ⟨Bs, 0, none⟩ = some (.slice (some ⟨gq, 0, none⟩) ls.length ls.length)) (hn₀ : n₀ ≤ W.heap.size) (hc : Lis W gq ls f) (hJa : ∀ pre A B, J pre A → Below A.heap.size A B → J pre B) (h0 : J [] W) :
    CallsIn Fence.wide n Try.prog 67 #[.func (.yield ll) #[] #[], .pointer (some ⟨Bs, 0, none⟩)] W fun e W' => (∃ v, e = .returned v) ∧
      ((∃ ys, ys = tuD ls.flatten ∧ J ys W') ∨ (∃ pre, pre <+: tuD ls.flatten ∧ Jx pre W')) := by
  have CON := concat_c gq ls f W hc.pos hc.four hc.len hc.cell
  have hfl : ls.flatten.length ≤ 24 * ls.length := by have := fl_len hc.len ls.length (Nat.le_refl _); rwa [List.take_length] at this
  have h4 := hc.four
  have HC := Lib.hid hc
  clear hc
  generalize ls.flatten = l at *
  refine callsIn_of_wp Try.func67 rfl trivial ?_ rfl
  simp only [Try.ntmps67, List.size_toArray, List.length_cons, List.length_nil, Nat.reduceAdd, Nat.reduceSub, Array.replicate_succ, Array.replicate_zero, List.push_toArray, List.append_toArray, List.nil_append, List.cons_append]
  gi_wp2_with fail
  refine ⟨trivial, ?_⟩
  refine (callsIn_wide.2 CON).mono ?_
  rintro e W1 ⟨v, rfl, hown, hb⟩
  have hJ1 := hJa _ _ _ h0 hb
  have hs1 := hb.size
  have hll : l.length ≤ 96 := by omega
  have hown2 := hown
  obtain ⟨p, cap, rfl, _, _⟩ := own_form hown
  have HO := Lib.hid hown2
  have HJ := Lib.hid hJ1
  clear CON hb HC hown hown2 hJ1
  gi_wp2
  gi_loopw [8] (fun i wr => ∃ k : Nat, k ≤ l.length ∧ i = .int .i64 k ∧ J (upto (tdf l) (2 * k)) wr ∧ Kp M n₀ W1 wr)
    (fun i _ => l.length - (intOf i).toNat)
  case atStart => exact ⟨0, Nat.zero_le _, rfl, HJ.out, Kp.refl _ _ _⟩
  case round =>
    obtain ⟨k, hk, rfl, hJs, hnx⟩ := hrel
    by_cases hlt : k < l.length
    · obtain ⟨m, hm⟩ : ∃ m, l.length = m + 1 := ⟨l.length - 1, by omega⟩
      have ho2 := HO.out
      rw [hm] at ho2
      obtain ⟨g, cap', hp⟩ := ownsRow_succ ho2
      cases hp
      rw [← hm] at ho2
      have hgb := (HO.out.lt g (by rw [hm]; rfl)).1
      obtain ⟨cur, z, hcz⟩ := own_heap ho2
      have hr := hnx.kee.row (own_row HO.out (Nat.le_refl _)) hcz (fun h => by have := hM g h; omega)
      clear hcz
      obtain ⟨e1, e2, e3, e4, e5, e6⟩ := hr k hlt
      simp only [Nat.zero_add] at e1 e2 e3 e4 e5 e6
      have hva := hall k hlt
      have ht1 := tdf_even hva
      have ht2 := tdf_odd hva
      clear ho2 hr hm
      generalize hg : gs l k = s at *
      obtain ⟨s1, s2, s3, s4, s5, s6⟩ := s
      dsimp only at e1 e2 e3 e4 e5 e6
      have hws := hnx.but.size
      obtain ⟨x, hx⟩ : ∃ x, tdf l (2 * k) = x := ⟨_, rfl⟩
      obtain ⟨y, hy⟩ : ∃ y, tdf l (2 * k + 1) = y := ⟨_, rfl⟩
      rw [hx] at ht1
      rw [hy] at ht2
      have hbA : Below wr.heap.size wr (wr.alloc (.cells #[(.int .i64 s1), (.int .i64 s2), (.int .i64 s3), (.int .i64 s4), (.int .i64 s5), (.int .i64 s6)] 26)) := (Below.refl _ _).alloc (Nat.le_refl _) _
      obtain ⟨fn, tmps, assign, body, hy1, hR⟩ := hY _ x (wr.alloc (.cells #[(.int .i64 s1), (.int .i64 s2), (.int .i64 s3), (.int .i64 s4), (.int .i64 s5), (.int .i64 s6)] 26)) (hJa _ _ _ hJs hbA) (by rw [upto_length]; omega)
      simp only [encD, ht1, Sec.fr] at hy1
      replace hR := hR.mono (fun e W' h => yres2 (A := fun W' => J (upto (tdf l) (2 * k) ++ [x]) W' ∧ Kp M n₀ (wr.alloc (.cells #[(.int .i64 s1), (.int .i64 s2), (.int .i64 s3), (.int .i64 s4), (.int .i64 s5), (.int .i64 s6)] 26)) W') (B := fun W' => Jx (upto (tdf l) (2 * k) ++ [x]) W') h)
      have HKA : Hid (Kp M n₀ W1 (wr.alloc (.cells #[(.int .i64 s1), (.int .i64 s2), (.int .i64 s3), (.int .i64 s4), (.int .i64 s5), (.int .i64 s6)] 26))) := Lib.hid (hnx.alloc (by omega) _)
      have HX := Lib.hid hx
      have HY := Lib.hid hy
      have hnM : wr.heap.size ∉ M := fun h => by have := hM _ h; omega
      clear hx hy ht1 hg hnx hbA hJs
      gi_wp2_with fail
      refine hR.mono ?_
      rintro e W3 (⟨rfl, HJ3⟩ | ⟨rfl, HJ3⟩)
      · obtain ⟨hJ3, hk3⟩ := HJ3.out
        have qh := hk3.kee.cells _ _ _ hnM (World.alloc_heap_new wr (.cells #[(.int .i64 s1), (.int .i64 s2), (.int .i64 s3), (.int .i64 s4), (.int .i64 s5), (.int .i64 s6)] 26))
        have q2 : W3.cell? ⟨wr.heap.size, 2, none⟩ = some (.int .i64 s3) := by simp [World.cell?, qh]
        have q3 : W3.cell? ⟨wr.heap.size, 3, none⟩ = some (.int .i64 s4) := by simp [World.cell?, qh]
        clear qh
        obtain ⟨fn2, tmps2, assign2, body2, hy2, hR2⟩ := hY _ y W3 hJ3 (by rw [List.length_append, upto_length]; simp; omega)
        simp only [encD, ht2, Sec.to] at hy2
        replace hR2 := hR2.mono (fun e W' h => yres2 (A := fun W' => J (upto (tdf l) (2 * k) ++ [x] ++ [y]) W' ∧ Kp M n₀ W3 W') (B := fun W' => Jx (upto (tdf l) (2 * k) ++ [x] ++ [y]) W') h)
        have HK3 := Lib.hid (HKA.out.trans hk3)
        clear hJ3 hk3 HJ3 ht2 hR hy1
        gi_wp2_with fail
        refine hR2.mono ?_
        rintro e W4 (⟨rfl, HJ4⟩ | ⟨rfl, HJ4⟩)
        · gi_wp2
          go_roundw
          case rel => exact ⟨k + 1, by omega, by simp, by rw [show 2 * (k + 1) = 2 * k + 1 + 1 by omega, upto_succ, upto_succ, HX.out, HY.out]; exact HJ4.out.1, HK3.out.trans HJ4.out.2⟩
          case measure => simp [intOf]; omega
        · gi_wp2
          refine bodyPost_ret (results_none rfl _ _ _) rfl ?_
          exact ⟨⟨_, rfl⟩, .inr ⟨_, by have h := upto_prefix (tdf l) (show 2 * k + 1 + 1 ≤ 2 * l.length by omega); rw [upto_succ, upto_succ, HX.out, HY.out] at h; exact h, HJ4.out⟩⟩
      · gi_wp2_with fail
        refine ⟨fun f h => (by cases h), ?_⟩
        gi_wp2
        refine bodyPost_ret (results_none rfl _ _ _) rfl ?_
        exact ⟨⟨_, rfl⟩, .inr ⟨_, by have h := upto_prefix (tdf l) (show 2 * k + 1 ≤ 2 * l.length by omega); rw [upto_succ, HX.out] at h; exact h, HJ3.out⟩⟩
    · obtain rfl : k = l.length := by omega
      gi_wp2
      go_end0
      exact ⟨⟨_, rfl⟩, .inl ⟨_, rfl, hJs⟩⟩

set_option maxHeartbeats 400000 in
theorem turns_c (a : Option Addr) (len cap : Nat) (w : World) : Calls Try.prog 55 #[.slice a len cap] w fun e w' => e = .returned (.func (.func 67) #[] #[.pointer (some ⟨w.heap.size, 0, none⟩)]) ∧ w' = w.alloc (.cells #[.slice a len cap] 88) := by
  go_enter Try.func55, Try.ntmps55
  go_wp2
  go_ret
  exact ⟨rfl, rfl⟩

theorem Lis.below {w W : World} {gq B : Nat} {ls : List (List Sec)} {f : Nat → Value} (h : Lis w gq ls f) (hb : Below B w W) (hB : w.heap.size ≤ B) : Lis W gq ls f :=
  ⟨h.pos, h.four, h.len, fun i hi => by
    obtain ⟨h1, h2⟩ := h.cell i hi
    have hl := World.block_lt_of_cell? _ _ h1
    have hl' : gq < w.heap.size := hl
    exact ⟨(hb.cell (p := ⟨gq, i, none⟩) (show gq < B by omega)).trans h1, h2.below (hb.mono hB)⟩⟩
theorem turns_stops (n : Nat) (hn : 1 ≤ n) (Bs n₀ gq : Nat) (ls : List (List Sec)) (f : Nat → Value) (M : List Nat) (hM : ∀ m ∈ M, m < n₀) (hall : allS ls.flatten) (w : World)
    (hBs : w.cell? ⟨Bs, 0, none⟩ = some (.slice (some ⟨gq, 0, none⟩) ls.length ls.length)) (hn₀ : n₀ ≤ w.heap.size) (hc : Lis w gq ls f) :
    SeqStopsK Fence.wide n Try.prog 67 #[.pointer (some ⟨Bs, 0, none⟩)] encD (Kp M n₀) (fun ys => ys = tuD ls.flatten) (fun pre => pre <+: tuD ls.flatten) (2 * ls.flatten.length) w := fun ll J Jx W hW hJ hJx hY h0 =>
  turns1_in n hn ll Bs n₀ gq ls f M hM hall J Jx hY W ((hW.cell (p := ⟨Bs, 0, none⟩) (World.block_lt_of_cell? _ _ hBs)).trans hBs) (by have := hW.size; omega) (hc.below hW (Nat.le_refl _))
    (fun pre A B h hb => hJ pre A B none h (grown_of_below hb) (fun r e => by cases e)) h0


end Go.Proofs.Ytpadkmlckmopfaa.Se
