/- PolS: chain. -/
import Derived.Test.YtphcmdmfjhjidaaPolR
import Derived.Test.YtphcmdmfjhjidaaRows
import Derived.WalkKit
import Derived.WalkSpells
import Derived.WalkLawsBesides
import Derived.Lib.Hide
import Derived.Deep.QuietTactic
import Derived.BigQuiet
import Derived.RegionTactic
import Derived.ChangeAlike
import Derived.BigRegion
import Derived.Deep.RegionHeld3
import Derived.Deep.RegionWith
import Derived.Outline
import Derived.IntWalk
import Derived.LoopTactic
namespace Go.Proofs.Ytphcmdmfjhjidaa.Po
open Go.RowKit
set_option linter.unusedSimpArgs false
set_option linter.unusedVariables false

def slLen : Value → Nat | .slice _ n _ => n | _ => 0
/-- What is left of a way once the places are dropped at which it does not turn left to p. -/
def popN (p : Pt) : Nat → List Pt → List Pt
  | 0, out => out
  | n + 1, out => if 1 < out.length ∧ tu (gp out (out.length - 2)) (gp out (out.length - 1)) p ≤ 0 then popN p n (out.take (out.length - 1)) else out
def chK (s : List Pt) : Nat → List Pt
  | 0 => []
  | k + 1 => popN (gp s k) (chK s k).length (chK s k) ++ [gp s k]
theorem popN_len (p : Pt) (n : Nat) (out : List Pt) : (popN p n out).length ≤ out.length := by
  induction n generalizing out with
  | zero => exact Nat.le_refl _
  | succ n ih =>
    unfold popN
    split
    · exact Nat.le_trans (ih _) (by simp)
    · exact Nat.le_refl _
theorem popN_sub (p : Pt) (n : Nat) (out : List Pt) : ∃ k, k ≤ out.length ∧ popN p n out = out.take k := by
  induction n generalizing out with
  | zero => exact ⟨out.length, Nat.le_refl _, by simp [popN]⟩
  | succ n ih =>
    unfold popN
    split
    · obtain ⟨k, hk, e⟩ := ih (out.take (out.length - 1))
      rw [List.length_take] at hk
      exact ⟨k, by omega, by rw [e, List.take_take, Nat.min_eq_left (by omega)]⟩
    · exact ⟨out.length, Nat.le_refl _, by simp⟩
theorem chK_len (s : List Pt) (k : Nat) : (chK s k).length ≤ k := by
  induction k with
  | zero => simp [chK]
  | succ k ih => have := popN_len (gp s k) (chK s k).length (chK s k); simp [chK]; omega
theorem popN_step {p : Pt} {out : List Pt} (h : 1 < out.length ∧ tu (gp out (out.length - 2)) (gp out (out.length - 1)) p ≤ 0) : popN p out.length out = popN p (out.take (out.length - 1)).length (out.take (out.length - 1)) := by
  obtain ⟨n, hn⟩ : ∃ n, out.length = n + 1 := ⟨out.length - 1, by omega⟩
  have e : (out.take (out.length - 1)).length = n := by simp; omega
  rw [e]
  conv => lhs; rw [hn]
  rw [popN, if_pos h]
theorem popN_stay {p : Pt} {out : List Pt} (h : ¬ (1 < out.length ∧ tu (gp out (out.length - 2)) (gp out (out.length - 1)) p ≤ 0)) : popN p out.length out = out := by
  cases hn : out.length with
  | zero => rfl
  | succ n => rw [popN, if_neg h]
theorem okL_take' {l : List Pt} (h : okL l = true) (k : Nat) : okL (l.take k) = true := okL_iff.2 fun p hp => okL_iff.1 h p (List.mem_of_mem_take hp)
theorem okL_app {l : List Pt} {p : Pt} (h : okL l = true) (hp : okP p) : okL (l ++ [p]) = true := okL_iff.2 fun q hq => by
  rcases List.mem_append.1 hq with h1 | h1
  · exact okL_iff.1 h q h1
  · simp at h1; rw [h1]; exact hp
theorem chK_ok {s : List Pt} (h : okL s = true) (k : Nat) : okL (chK s k) = true := by
  induction k with
  | zero => rfl
  | succ k ih =>
    obtain ⟨j, _, e⟩ := popN_sub (gp s k) (chK s k).length (chK s k)
    rw [chK, e]
    exact okL_app (okL_take' ih j) (okL_gp h k)
theorem grown_of_below {W W' : World} (h : Below W.heap.size W W') : W.grownBy W' none := ⟨h.os, h.tape, h.output, h.size, fun k hk _ => h.block k hk⟩
theorem own_below {W W' : World} {base : Nat} {e : TypeId} {size : Nat} {v : Value} {n : Nat} {xs : List Value} (h : W.ownsRow base e size v n xs) (hb : Below W.heap.size W W') : W'.ownsRow base e size v n xs :=
  h.kept (grown_of_below hb) (by cases hv : v.ownBlock with | none => exact .inl rfl | some k => exact .inr (by simp))
theorem own_base {W : World} {base base' : Nat} {e : TypeId} {size : Nat} {v : Value} {n : Nat} {xs : List Value} (h : W.ownsRow base e size v n xs) (hb : base' ≤ base) : W.ownsRow base' e size v n xs := by
  obtain ⟨h1, h2⟩ := h
  refine ⟨h1, ?_⟩
  rcases h2 with h | ⟨g, cap, cur, a, b, c⟩
  · exact .inl h
  · exact .inr ⟨g, cap, cur, a, Nat.le_trans hb b, c⟩
theorem flatP_take (l : List Pt) (n : Nat) : flatP (l.take n) = (flatP l).take (n * 2) := by
  induction l generalizing n with
  | nil => simp [flatP]
  | cons x l ih =>
    cases n with
    | zero => simp [flatP]
    | succ n =>
      have e : flatP (x :: l) = (.int .i64 (x.1)) :: (.int .i64 (x.2)) :: flatP l := rfl
      have e2 : flatP ((x :: l).take (n + 1)) = (.int .i64 (x.1)) :: (.int .i64 (x.2)) :: flatP (l.take n) := rfl
      rw [e, e2, ih, show (n + 1) * 2 = n * 2 + 1 + 1 by omega, List.take_succ_cons, List.take_succ_cons]
theorem own_cap {W : World} {base g n cap : Nat} {xs : List Value} (h : W.ownsRow base 28 2 (.slice (some ⟨g, 0, none⟩) n cap) n xs) : n ≤ cap := by
  obtain ⟨h1, h2⟩ := h
  rcases h2 with ⟨h, _⟩ | ⟨g', cap', cur, hv, hb, hc, hn, hm, hs, ht⟩
  · cases h
  · cases hv
    omega
theorem below_app {B : Nat} {W0 wA w' : World} {o : Obj} {e : TypeId} {size : Nat} {v : Value} {n : Nat} {xs : List Value} (hb : Below B W0 wA) (hB : B ≤ wA.heap.size) (hown : wA.ownsRow B e size v n xs) (hg : (wA.alloc o).grownBy w' v.ownBlock) : Below B W0 w' := by
  have h1 : Below B W0 (wA.alloc o) := hb.alloc hB o
  have hs : (wA.alloc o).heap.size = wA.heap.size + 1 := by simp
  refine ⟨hg.os.trans h1.os, hg.tape.trans h1.tape, hg.output.trans h1.output, Nat.le_trans h1.size hg.size, fun k hk => ?_⟩
  refine (hg.block k (by omega) ?_).trans (h1.block k hk)
  rcases hown.2 with ⟨rfl, _⟩ | ⟨g, cap, cur, rfl, hbg, _⟩
  · simp [Value.ownBlock]
  · simp [Value.ownBlock]
    omega
theorem flatP_app (out : List Pt) (p1 p2 : Int) : flatP out ++ [(.int .i64 p1), (.int .i64 p2)] = flatP (out ++ [(p1, p2)]) := by simp [flatP]
theorem own_app {B : Nat} {w' : World} {v' : Value} {out : List Pt} {p1 p2 : Int} {m : Nat} (h : w'.ownsRow B 28 2 v' m (flatP out ++ [(.int .i64 p1), (.int .i64 p2)])) (hm : m = out.length + 1) :
    w'.ownsRow B 28 2 v' (out ++ [(p1, p2)]).length (flatP (out ++ [(p1, p2)])) := by
  rw [← flatP_app, List.length_append]
  subst hm
  exact h
theorem own_form {W : World} {base n : Nat} {e : TypeId} {size : Nat} {v : Value} {xs : List Value} (h : W.ownsRow base e size v n xs) : ∃ p c, v = .slice p n c := by
  obtain ⟨h1, h2⟩ := h
  rcases h2 with ⟨h, h'⟩ | ⟨g', cap', cur, hv, _⟩
  · subst h'; exact ⟨_, _, h⟩
  · exact ⟨_, _, hv⟩
theorem own_take {W : World} {base g n cap : Nat} {out : List Pt} (h : W.ownsRow base 28 2 (.slice (some ⟨g, 0, none⟩) (n + 1) cap) (n + 1) (flatP out)) (hl : out.length = n + 1) :
    W.ownsRow base 28 2 (.slice (some ⟨g, 0, none⟩) n cap) n (flatP (out.take n)) := by
  obtain ⟨h1, h2⟩ := h
  refine ⟨by rw [flatP_length, List.length_take]; omega, .inr ?_⟩
  rcases h2 with ⟨h, _⟩ | ⟨g', cap', cur, hv, hb, hc, hn, hm, hs, ht⟩
  · cases h
  · cases hv
    refine ⟨g, cap, cur, rfl, hb, hc, by omega, hm, hs, ?_⟩
    rw [flatP_take, ← ht, List.take_take, Nat.min_eq_left (by omega)]

def ChPost (w : World) (l : List Pt) (e : Ending) (W' : World) : Prop := ∃ v, e = .returned v ∧ W'.ownsRow w.heap.size 28 2 v l.length (flatP l) ∧ Below w.heap.size w W'
set_option maxRecDepth 100000 in
set_option maxHeartbeats 6400000 in
theorem chain_c (r : Int) (b off cap : Nat) (l : List Pt) (w : World) (hr : r = 1 ∨ r = -1) (hl : okL l = true) (h200 : l.length ≤ 200) (h0l : 0 < l.length) (hc : Row w b off l) :
    Calls Try.prog 60 #[.slice (some ⟨b, off, none⟩) l.length cap, (.int .i64 r)] w (ChPost w (chK (srt r l) l.length)) := by
  have hbl := hc.lt h0l
  obtain ⟨i0, hi, hz0, hz1, hz2⟩ := info_parts info_pt
  have hls := srt_length r l
  have hso : okL (srt r l) = true := okL_iff.2 fun p hp => okL_iff.1 hl p ((srt_perm r l).mem_iff.1 hp)
  go_enter Try.func60, Try.ntmps60
  go_wp2_with fail
  refine (values_c _ _ _ _).mono ?_
  rintro e w1 ⟨rfl, rfl⟩
  go_wp2_with fail
  refine (order_c r _).mono ?_
  rintro e w2 ⟨rfl, rfl⟩
  have hsrt : ∀ W : World, Below w.heap.size w W → ∀ Bs q, W.cell? ⟨Bs, 0, none⟩ = some (.slice (some ⟨b, off, none⟩) l.length cap) → W.cell? ⟨q, 0, none⟩ = some (.int .i64 r) → _ := fun W hB Bs q h1 h2 => sorted_c r Bs b off cap q l W hr h200 h0l h1 (hc.below hbl hB) h2
  have HH := Lib.hid hsrt
  clear hsrt
  have HC := Lib.hid hc
  clear hc
  go_wp2_with fail
  refine Calls.mono (HH.out _ (by repeat (first | exact Below.refl _ _ | assumption | refine bstep ?_ (by assumption) | refine Below.drew ?_ | refine balloc ?_ _ | refine Below.setCell ?_ (by first | omega | (simp <;> omega)) _)) w.heap.size (w.heap.size + 1) (by go_simp) (by go_simp)) ?_
  rintro e W1 ⟨gs, cs, rfl, hrow, hgs, hb1⟩
  have hsz1 := hb1.size
  (try simp at hsz1 hgs)
  have hB1 : Below w.heap.size w W1 := (by repeat (first | exact Below.refl _ _ | assumption | refine bstep ?_ (by assumption) | refine Below.drew ?_ | refine balloc ?_ _ | refine Below.setCell ?_ (by first | omega | (simp <;> omega)) _))
  have hsl : gs < W1.heap.size := hrow.lt (by omega)
  rw [hls]
  generalize srt r l = s at *
  have HS := Lib.hid hrow
  have HLS := Lib.hid hls
  have HI := Lib.hid hi
  clear hrow hls HH hb1 hi
  go_wp2_with fail
  go_loopw [5, 14] (fun s5 i wr => ∃ (k : Nat) (v : Value), i = (.int .i64 k) ∧ k ≤ l.length ∧ s5 = v ∧ wr.ownsRow W1.heap.size 28 2 v (chK s k).length (flatP (chK s k)) ∧ Below W1.heap.size W1 wr) (fun _ i _ => l.length - (intOf i).toNat)
  case atStart => exact ⟨0, _, rfl, by omega, rfl, World.ownsRow_nil _ _ _ _, Below.refl _ _⟩
  case round =>
    obtain ⟨k, v, rfl, hk, rfl, hown, hbel⟩ := hrel
    by_cases hlt : k < l.length
    · have hrr := HS.out.below hsl hbel
      obtain ⟨c1, c2⟩ := hrr k (by rw [HLS.out]; exact hlt)
      simp only [Nat.zero_add] at c1 c2
      have hpo := okL_gp hso k
      have HCK := Lib.hid (show chK s (k + 1) = popN (gp s k) (chK s k).length (chK s k) ++ [gp s k] from rfl)
      have hcko := chK_ok hso k
      have hckl := chK_len s k
      generalize hgk : gp s k = pp at *
      have HGK := Lib.hid hgk
      obtain ⟨p1, p2⟩ := pp
      dsimp only at c1 c2
      have hpo' : ok p1 p2 := hpo
      have HRR := Lib.hid hrr
      have HO := Lib.hid hown
      clear hrr hown hgk
      obtain ⟨wo, rfl⟩ : ∃ wo : World, wo = wr := ⟨_, rfl⟩
      go_wp2_with fail
      have hsW := hbel.size
      go_loopw [5] (fun s5 wi => ∃ (v : Value) (out : List Pt), s5 = v ∧ wi.ownsRow W1.heap.size 28 2 v out.length (flatP out) ∧ okL out = true ∧ Hid (popN (p1, p2) (chK s k).length (chK s k) = popN (p1, p2) out.length out) ∧ out.length ≤ k ∧ wi.cell? ⟨wo.heap.size, 0, none⟩ = some (.int .i64 p1) ∧ wi.cell? ⟨wo.heap.size, 1, none⟩ = some (.int .i64 p2) ∧ wo.heap.size < wi.heap.size ∧ Below W1.heap.size W1 wi) (fun s5 _ => slLen s5)
      case atStart =>
        exact ⟨_, chK s k, rfl, HO.out.alloc _, hcko, Lib.hid rfl, hckl, by go_simp, by go_simp, by simp, (by repeat (first | exact Below.refl _ _ | assumption | refine bstep ?_ (by assumption) | refine Below.drew ?_ | refine balloc ?_ _ | refine Below.setCell ?_ (by first | omega | (simp <;> omega)) _))⟩
      case round =>
        obtain ⟨v2, out, rfl, hown2, hoo, HP, hol, q0, q1, hPl, hbi⟩ := hrel
        obtain ⟨wi, rfl⟩ : ∃ wi : World, wi = wr := ⟨_, rfl⟩
        have hsi := hbi.size
        by_cases h2 : 1 < out.length
        · obtain ⟨j, hj⟩ : ∃ j, out.length = j + 1 + 1 := ⟨out.length - 2, by omega⟩
          have hown3 := hown2
          rw [hj] at hown3
          obtain ⟨go, co, rfl⟩ := ownsRow_succ hown3
          have hgo : go < wi.heap.size := (hown3.lt go rfl).2
          obtain ⟨e1, e2⟩ := flatP_get out j (by omega)
          obtain ⟨e3, e4⟩ := flatP_get out (j + 1) (by omega)
          have k1 : wi.cell? ⟨go, j * 2, none⟩ = some (.int .i64 ((gp out j).1)) := (hown3.cellAt (j * 2) (by omega)).trans e1
          have k2 : wi.cell? ⟨go, j * 2 + 1, none⟩ = some (.int .i64 ((gp out j).2)) := (hown3.cellAt (j * 2 + 1) (by omega)).trans e2
          have k3 : wi.cell? ⟨go, (j + 1) * 2, none⟩ = some (.int .i64 ((gp out (j + 1)).1)) := (hown3.cellAt ((j + 1) * 2) (by omega)).trans e3
          have k4 : wi.cell? ⟨go, (j + 1) * 2 + 1, none⟩ = some (.int .i64 ((gp out (j + 1)).2)) := (hown3.cellAt ((j + 1) * 2 + 1) (by omega)).trans e4
          have o1 := okL_gp hoo j
          have o2 := okL_gp hoo (j + 1)
          unfold okP at o1 o2
          have x1 : IntKind.i64.wrap ((j : Int) + 1 + 1 - 2) = (j : Int) := by rw [show (j : Int) + 1 + 1 - 2 = (j : Int) by omega]; exact IntWalk.i64_in _ (by omega)
          have x2 : IntKind.i64.wrap ((j : Int) + 1 + 1 - 1) = (j : Int) + 1 := by rw [show (j : Int) + 1 + 1 - 1 = (j : Int) + 1 by omega]; exact IntWalk.i64_in _ (by omega)
          have x3 : IntKind.i64.wrap ((j : Int) + 1) = (j : Int) + 1 := IntWalk.i64_in _ (by omega)
          have x4 : ((j : Int) + 1).toNat = j + 1 := by omega
          have y1 : (0 : Int) ≤ (j : Int) := by omega
          have y2 : (j : Int) < (j : Int) + 1 + 1 := by omega
          have y3 : (0 : Int) ≤ (j : Int) + 1 := by omega
          have y4 : (j : Int) + 1 < (j : Int) + 1 + 1 := by omega
          have y5 : (1 : Int) < (j : Int) + 1 + 1 := by omega
          have HC2 := Lib.hid (show (tu (gp out (out.length - 2)) (gp out (out.length - 1)) (p1, p2) ≤ 0) ↔ (turn (gp out j).1 (gp out j).2 (gp out (j + 1)).1 (gp out (j + 1)).2 p1 p2 ≤ 0) by rw [hj]; exact Iff.rfl)
          have hcap := own_cap hown3
          have y6 : (j : Int) + 1 ≤ (co : Int) := by omega
          have hjk : j + 1 + 1 ≤ 200 := by omega
          have HJ := Lib.hid hj
          have HN := Lib.hid hown3
          clear hown2 hown3 e1 e2 e3 e4 hj
          cases hv : decide (turn (gp out j).1 (gp out j).2 (gp out (j + 1)).1 (gp out (j + 1)).2 p1 p2 ≤ 0)
          · have HST := Lib.hid (popN_stay (p := (p1, p2)) (out := out) (fun h => of_decide_eq_false hv (HC2.out.1 h.2)))
            have HV := Lib.hid hv
            go_wp2_with fail
            refine wp_region_held_drew (S := fun w' => w'.cell? ⟨go, j * 2, none⟩ = some (.int .i64 ((gp out j).1)) ∧ w'.cell? ⟨go, j * 2 + 1, none⟩ = some (.int .i64 ((gp out j).2)) ∧ w'.cell? ⟨go, (j + 1) * 2, none⟩ = some (.int .i64 ((gp out (j + 1)).1)) ∧ w'.cell? ⟨go, (j + 1) * 2 + 1, none⟩ = some (.int .i64 ((gp out (j + 1)).2)) ∧ w'.cell? ⟨wo.heap.size, 0, none⟩ = some (.int .i64 p1) ∧ w'.cell? ⟨wo.heap.size, 1, none⟩ = some (.int .i64 p2)) (by kernel_rfl) (by first | (go_keep; done) | ((repeat' apply And.intro) <;> go_simp)) (fun hHeld => ?_)
            refine wpAnyH_take (i := 0) (oi := ⟨some 18, _, _, _, _, _⟩) (v := ?_) rfl (by kernel_rfl) (by kernel_rfl) (by kernel_rfl) (fun _ _ _ h => h) (Or.inl ⟨by rfl, ?_⟩) (by assumption) ?_
            rotate_left
            · intro w hSw; (try dsimp only at hSw); go_simp; try with_reducible rfl
            try simp only [Act.put, List.setIfInBounds_toArray, List.set_cons_zero, List.set_cons_succ]
            refine wpAnyH_take (i := 1) (oi := ⟨some 19, _, _, _, _, _⟩) (v := ?_) rfl (by kernel_rfl) (by kernel_rfl) (by kernel_rfl) (fun _ _ _ h => h) (Or.inl ⟨by rfl, ?_⟩) (by assumption) ?_
            rotate_left
            · intro w hSw; (try dsimp only at hSw); go_simp; try with_reducible rfl
            try simp only [Act.put, List.setIfInBounds_toArray, List.set_cons_zero, List.set_cons_succ]
            refine wpAnyH_take (i := 2) (oi := ⟨some 20, _, _, _, _, _⟩) (v := ?_) rfl (by kernel_rfl) (by kernel_rfl) (by kernel_rfl) (fun _ _ _ h => h) (Or.inl ⟨by rfl, ?_⟩) (by assumption) ?_
            rotate_left
            · intro w hSw; (try dsimp only at hSw); go_simp; try with_reducible rfl
            try simp only [Act.put, List.setIfInBounds_toArray, List.set_cons_zero, List.set_cons_succ]
            refine wpAnyH_take (i := 3) (oi := ⟨some 21, _, _, _, _, _⟩) (v := ?_) rfl (by kernel_rfl) (by kernel_rfl) (by kernel_rfl) (fun _ _ _ h => h) (Or.inl ⟨by rfl, ?_⟩) (by assumption) ?_
            rotate_left
            · intro w hSw; (try dsimp only at hSw); go_simp; try with_reducible rfl
            try simp only [Act.put, List.setIfInBounds_toArray, List.set_cons_zero, List.set_cons_succ]
            refine wpAnyH_take (i := 4) (oi := ⟨some 22, _, _, _, _, _⟩) (v := ?_) rfl (by kernel_rfl) (by kernel_rfl) (by kernel_rfl) (fun _ _ _ h => h) (Or.inl ⟨by rfl, ?_⟩) (by assumption) ?_
            rotate_left
            · intro w hSw; (try dsimp only at hSw); go_simp; try with_reducible rfl
            try simp only [Act.put, List.setIfInBounds_toArray, List.set_cons_zero, List.set_cons_succ]
            refine wpAnyH_take (i := 5) (oi := ⟨some 23, _, _, _, _, _⟩) (v := ?_) rfl (by kernel_rfl) (by kernel_rfl) (by kernel_rfl) (fun _ _ _ h => h) (Or.inl ⟨by rfl, ?_⟩) (by assumption) ?_
            rotate_left
            · intro w hSw; (try dsimp only at hSw); go_simp; try with_reducible rfl
            try simp only [Act.put, List.setIfInBounds_toArray, List.set_cons_zero, List.set_cons_succ]
            refine wpAnyH_take (i := 6) (oi := ⟨some 24, _, _, _, _, _⟩) (v := ?_) rfl (by kernel_rfl) (by kernel_rfl) (by kernel_rfl) (fun _ _ _ h => h) (Or.inl ⟨by rfl, ?_⟩) (by assumption) ?_
            rotate_left
            · intro w hSw; (try dsimp only at hSw); go_simp; try with_reducible rfl
            try simp only [Act.put, List.setIfInBounds_toArray, List.set_cons_zero, List.set_cons_succ]
            refine wpAnyH_take (i := 7) (oi := ⟨some 25, _, _, _, _, _⟩) (v := ?_) rfl (by kernel_rfl) (by kernel_rfl) (by kernel_rfl) (fun _ _ _ h => h) (Or.inl ⟨by rfl, ?_⟩) (by assumption) ?_
            rotate_left
            · intro w hSw; (try dsimp only at hSw); go_simp; try with_reducible rfl
            try simp only [Act.put, List.setIfInBounds_toArray, List.set_cons_zero, List.set_cons_succ]
            refine wpAnyH_take (i := 8) (oi := ⟨some 26, _, _, _, _, _⟩) (v := ?_) rfl (by kernel_rfl) (by kernel_rfl) (by kernel_rfl) (fun _ _ _ h => h) (Or.inl ⟨by rfl, ?_⟩) (by assumption) ?_
            rotate_left
            · intro w hSw; (try dsimp only at hSw); go_simp; try with_reducible rfl
            try simp only [Act.put, List.setIfInBounds_toArray, List.set_cons_zero, List.set_cons_succ]
            refine wpAnyH_take (i := 9) (oi := ⟨some 27, _, _, _, _, _⟩) (v := ?_) rfl (by kernel_rfl) (by kernel_rfl) (by kernel_rfl) (fun _ _ _ h => h) (Or.inl ⟨by rfl, ?_⟩) (by assumption) ?_
            rotate_left
            · intro w hSw; (try dsimp only at hSw); go_simp; try with_reducible rfl
            try simp only [Act.put, List.setIfInBounds_toArray, List.set_cons_zero, List.set_cons_succ]
            refine wpAnyH_take (i := 10) (oi := ⟨some 28, _, _, _, _, _⟩) (v := ?_) rfl (by kernel_rfl) (by kernel_rfl) (by kernel_rfl) (fun _ _ _ h => h) (Or.inl ⟨by rfl, ?_⟩) (by assumption) ?_
            rotate_left
            · intro w hSw; (try dsimp only at hSw); go_simp; try with_reducible rfl
            try simp only [Act.put, List.setIfInBounds_toArray, List.set_cons_zero, List.set_cons_succ]
            refine wpAnyH_take (i := 11) (oi := ⟨some 29, _, _, _, _, _⟩) (v := ?_) rfl (by kernel_rfl) (by kernel_rfl) (by kernel_rfl) (fun _ _ _ h => h) (Or.inl ⟨by rfl, ?_⟩) (by assumption) ?_
            rotate_left
            · intro w hSw; (try dsimp only at hSw); go_simp; try with_reducible rfl
            try simp only [Act.put, List.setIfInBounds_toArray, List.set_cons_zero, List.set_cons_succ]
            refine wpAnyH_take (i := 12) (oi := ⟨some 30, _, _, _, _, _⟩) (v := ?_) rfl (by kernel_rfl) (by kernel_rfl) (by kernel_rfl) (fun _ _ _ h => h) (Or.inl ⟨by rfl, ?_⟩) (by assumption) ?_
            rotate_left
            · intro w hSw; (try dsimp only at hSw); go_simp; try with_reducible rfl
            try simp only [Act.put, List.setIfInBounds_toArray, List.set_cons_zero, List.set_cons_succ]
            refine wpAnyH_take (i := 13) (oi := ⟨some 31, _, _, _, _, _⟩) (v := ?_) rfl (by kernel_rfl) (by kernel_rfl) (by kernel_rfl) (fun _ _ _ h => h) (Or.inl ⟨by rfl, ?_⟩) (by assumption) ?_
            rotate_left
            · intro w hSw; (try dsimp only at hSw); go_simp; try with_reducible rfl
            try simp only [Act.put, List.setIfInBounds_toArray, List.set_cons_zero, List.set_cons_succ]
            refine wpAnyH_take (i := 14) (oi := ⟨some 32, _, _, _, _, _⟩) (v := ?_) rfl (by kernel_rfl) (by kernel_rfl) (by kernel_rfl) (fun _ _ _ h => h) (Or.inl ⟨by rfl, ?_⟩) (by assumption) ?_
            rotate_left
            · intro w hSw; (try dsimp only at hSw); go_simp; try with_reducible rfl
            try simp only [Act.put, List.setIfInBounds_toArray, List.set_cons_zero, List.set_cons_succ]
            refine wpAnyH_take (i := 15) (oi := ⟨some 33, _, _, _, _, _⟩) (v := ?_) rfl (by kernel_rfl) (by kernel_rfl) (by kernel_rfl) (fun _ _ _ h => h) (Or.inl ⟨by rfl, ?_⟩) (by assumption) ?_
            rotate_left
            · intro w hSw; (try dsimp only at hSw); go_simp; try with_reducible rfl
            try simp only [Act.put, List.setIfInBounds_toArray, List.set_cons_zero, List.set_cons_succ]
            refine wpAnyH_take (i := 16) (oi := ⟨some 34, _, _, _, _, _⟩) (v := ?_) rfl (by kernel_rfl) (by kernel_rfl) (by kernel_rfl) (fun _ _ _ h => h) (Or.inl ⟨by rfl, ?_⟩) (by assumption) ?_
            rotate_left
            · intro w hSw; (try dsimp only at hSw); go_simp; try with_reducible rfl
            try simp only [Act.put, List.setIfInBounds_toArray, List.set_cons_zero, List.set_cons_succ]
            refine wpAnyH_ready (rs := [17]) (by kernel_rfl) (by simp) ?_
            refine AllReadyH.cons (o := ⟨some 35, _, _, _, _, _⟩) rfl (fun KK hKK => ?_) AllReadyH.nil
            go_simp
            refine Calls.mono (pturn_c _ _ _ _ _ _ _ (by assumption) (by assumption) (by assumption)) ?_
            rintro e w4 ⟨rfl, hb4⟩
            have hB4 : Below wi.heap.size wi w4 := (by repeat (first | exact Below.refl _ _ | assumption | refine bstep ?_ (by assumption) | refine Below.drew ?_ | refine balloc ?_ _ | refine Below.setCell ?_ (by first | omega | (simp <;> omega)) _))
            obtain ⟨hc4, hf4⟩ := bcell hB4
            have j4 := fun o => hc4 go o (by omega)
            have j5 := fun o => hc4 wo.heap.size o (by omega)
            clear hc4 hf4 hb4
            (try go_wp2_with fail)
            refine hKK.out _ _ (by first | (go_keep; done) | ((repeat' apply And.intro) <;> go_simp)) (fun hHeld => ?_)
            clear hKK KK
            try simp only [Act.put, List.setIfInBounds_toArray, List.set_cons_zero, List.set_cons_succ]
            refine wpAnyH_take (i := 18) (oi := ⟨some 36, _, _, _, _, _⟩) (v := ?_) rfl (by kernel_rfl) (by kernel_rfl) (by kernel_rfl) (fun _ _ _ h => h) (Or.inl ⟨by rfl, ?_⟩) (by assumption) ?_
            rotate_left
            · intro w hSw; (try dsimp only at hSw); go_simp; try with_reducible rfl
            try simp only [Act.put, List.setIfInBounds_toArray, List.set_cons_zero, List.set_cons_succ]
            refine wpAnyH_take (i := 19) (oi := ⟨some 37, _, _, _, _, _⟩) (v := ?_) rfl (by kernel_rfl) (by kernel_rfl) (by kernel_rfl) (fun _ _ _ h => h) (Or.inl ⟨by rfl, ?_⟩) (by assumption) ?_
            rotate_left
            · intro w hSw; (try dsimp only at hSw); go_simp; try with_reducible rfl
            try simp only [Act.put, List.setIfInBounds_toArray, List.set_cons_zero, List.set_cons_succ]
            refine wpAnyH_done (by kernel_rfl) ?_ _
            have HOW : w4.ownsRow W1.heap.size 28 2 _ _ (flatP out) := own_below HN.out hB4
            have hBX : Below W1.heap.size W1 w4 := (by repeat (first | exact Below.refl _ _ | assumption | refine bstep ?_ (by assumption) | refine Below.drew ?_ | refine balloc ?_ _ | refine Below.setCell ?_ (by first | omega | (simp <;> omega)) _))
            go_wp2_with (at_builtin; go_must (refine wpList_append_own _ rfl _ _ 22 rfl W1.heap.size 28 i0 (.agg #[(.int .i64 0), (.int .i64 0)]) 2 16 Try.underlying22 HI.out hz0 hz1 hz2 rfl (by decide) _ _ _ rfl (HOW.alloc _) ⟨w4.heap.size, 0, none⟩ 1 1 [(.int .i64 p1), (.int .i64 p2)] rfl rfl (two_new _ _ _ _) (by simp [Value.oneCell']) (by unfold maxLen; omega) (by omega) (by have := hBX.size; simp; omega) ?_); intro v' w1 hown' hgrow _)
            have hR1 := below_app hBX (by have := hBX.size; omega) HOW hgrow
            have hR2 := own_app (out := out) hown' (by rw [HJ.out])
            have e3 : chK s (k + 1) = out ++ [(p1, p2)] := by rw [HCK.out, HP.out, HST.out]
            rw [← e3] at hR2
            have HR2 := Lib.hid hR2
            clear hown' hgrow hR2 e3
            go_wp2
            go_roundw
            case rel => exact ⟨k + 1, _, by simp, by omega, rfl, HR2.out, hR1⟩
            case measure => simp [intOf]; omega
          · have HST := Lib.hid (popN_step (p := (p1, p2)) (out := out) ⟨h2, HC2.out.2 (of_decide_eq_true hv)⟩)
            have HV := Lib.hid hv
            go_wp2_with fail
            refine wp_region_held_drew (S := fun w' => w'.cell? ⟨go, j * 2, none⟩ = some (.int .i64 ((gp out j).1)) ∧ w'.cell? ⟨go, j * 2 + 1, none⟩ = some (.int .i64 ((gp out j).2)) ∧ w'.cell? ⟨go, (j + 1) * 2, none⟩ = some (.int .i64 ((gp out (j + 1)).1)) ∧ w'.cell? ⟨go, (j + 1) * 2 + 1, none⟩ = some (.int .i64 ((gp out (j + 1)).2)) ∧ w'.cell? ⟨wo.heap.size, 0, none⟩ = some (.int .i64 p1) ∧ w'.cell? ⟨wo.heap.size, 1, none⟩ = some (.int .i64 p2)) (by kernel_rfl) (by first | (go_keep; done) | ((repeat' apply And.intro) <;> go_simp)) (fun hHeld => ?_)
            refine wpAnyH_take (i := 0) (oi := ⟨some 18, _, _, _, _, _⟩) (v := ?_) rfl (by kernel_rfl) (by kernel_rfl) (by kernel_rfl) (fun _ _ _ h => h) (Or.inl ⟨by rfl, ?_⟩) (by assumption) ?_
            rotate_left
            · intro w hSw; (try dsimp only at hSw); go_simp; try with_reducible rfl
            try simp only [Act.put, List.setIfInBounds_toArray, List.set_cons_zero, List.set_cons_succ]
            refine wpAnyH_take (i := 1) (oi := ⟨some 19, _, _, _, _, _⟩) (v := ?_) rfl (by kernel_rfl) (by kernel_rfl) (by kernel_rfl) (fun _ _ _ h => h) (Or.inl ⟨by rfl, ?_⟩) (by assumption) ?_
            rotate_left
            · intro w hSw; (try dsimp only at hSw); go_simp; try with_reducible rfl
            try simp only [Act.put, List.setIfInBounds_toArray, List.set_cons_zero, List.set_cons_succ]
            refine wpAnyH_take (i := 2) (oi := ⟨some 20, _, _, _, _, _⟩) (v := ?_) rfl (by kernel_rfl) (by kernel_rfl) (by kernel_rfl) (fun _ _ _ h => h) (Or.inl ⟨by rfl, ?_⟩) (by assumption) ?_
            rotate_left
            · intro w hSw; (try dsimp only at hSw); go_simp; try with_reducible rfl
            try simp only [Act.put, List.setIfInBounds_toArray, List.set_cons_zero, List.set_cons_succ]
            refine wpAnyH_take (i := 3) (oi := ⟨some 21, _, _, _, _, _⟩) (v := ?_) rfl (by kernel_rfl) (by kernel_rfl) (by kernel_rfl) (fun _ _ _ h => h) (Or.inl ⟨by rfl, ?_⟩) (by assumption) ?_
            rotate_left
            · intro w hSw; (try dsimp only at hSw); go_simp; try with_reducible rfl
            try simp only [Act.put, List.setIfInBounds_toArray, List.set_cons_zero, List.set_cons_succ]
            refine wpAnyH_take (i := 4) (oi := ⟨some 22, _, _, _, _, _⟩) (v := ?_) rfl (by kernel_rfl) (by kernel_rfl) (by kernel_rfl) (fun _ _ _ h => h) (Or.inl ⟨by rfl, ?_⟩) (by assumption) ?_
            rotate_left
            · intro w hSw; (try dsimp only at hSw); go_simp; try with_reducible rfl
            try simp only [Act.put, List.setIfInBounds_toArray, List.set_cons_zero, List.set_cons_succ]
            refine wpAnyH_take (i := 5) (oi := ⟨some 23, _, _, _, _, _⟩) (v := ?_) rfl (by kernel_rfl) (by kernel_rfl) (by kernel_rfl) (fun _ _ _ h => h) (Or.inl ⟨by rfl, ?_⟩) (by assumption) ?_
            rotate_left
            · intro w hSw; (try dsimp only at hSw); go_simp; try with_reducible rfl
            try simp only [Act.put, List.setIfInBounds_toArray, List.set_cons_zero, List.set_cons_succ]
            refine wpAnyH_take (i := 6) (oi := ⟨some 24, _, _, _, _, _⟩) (v := ?_) rfl (by kernel_rfl) (by kernel_rfl) (by kernel_rfl) (fun _ _ _ h => h) (Or.inl ⟨by rfl, ?_⟩) (by assumption) ?_
            rotate_left
            · intro w hSw; (try dsimp only at hSw); go_simp; try with_reducible rfl
            try simp only [Act.put, List.setIfInBounds_toArray, List.set_cons_zero, List.set_cons_succ]
            refine wpAnyH_take (i := 7) (oi := ⟨some 25, _, _, _, _, _⟩) (v := ?_) rfl (by kernel_rfl) (by kernel_rfl) (by kernel_rfl) (fun _ _ _ h => h) (Or.inl ⟨by rfl, ?_⟩) (by assumption) ?_
            rotate_left
            · intro w hSw; (try dsimp only at hSw); go_simp; try with_reducible rfl
            try simp only [Act.put, List.setIfInBounds_toArray, List.set_cons_zero, List.set_cons_succ]
            refine wpAnyH_take (i := 8) (oi := ⟨some 26, _, _, _, _, _⟩) (v := ?_) rfl (by kernel_rfl) (by kernel_rfl) (by kernel_rfl) (fun _ _ _ h => h) (Or.inl ⟨by rfl, ?_⟩) (by assumption) ?_
            rotate_left
            · intro w hSw; (try dsimp only at hSw); go_simp; try with_reducible rfl
            try simp only [Act.put, List.setIfInBounds_toArray, List.set_cons_zero, List.set_cons_succ]
            refine wpAnyH_take (i := 9) (oi := ⟨some 27, _, _, _, _, _⟩) (v := ?_) rfl (by kernel_rfl) (by kernel_rfl) (by kernel_rfl) (fun _ _ _ h => h) (Or.inl ⟨by rfl, ?_⟩) (by assumption) ?_
            rotate_left
            · intro w hSw; (try dsimp only at hSw); go_simp; try with_reducible rfl
            try simp only [Act.put, List.setIfInBounds_toArray, List.set_cons_zero, List.set_cons_succ]
            refine wpAnyH_take (i := 10) (oi := ⟨some 28, _, _, _, _, _⟩) (v := ?_) rfl (by kernel_rfl) (by kernel_rfl) (by kernel_rfl) (fun _ _ _ h => h) (Or.inl ⟨by rfl, ?_⟩) (by assumption) ?_
            rotate_left
            · intro w hSw; (try dsimp only at hSw); go_simp; try with_reducible rfl
            try simp only [Act.put, List.setIfInBounds_toArray, List.set_cons_zero, List.set_cons_succ]
            refine wpAnyH_take (i := 11) (oi := ⟨some 29, _, _, _, _, _⟩) (v := ?_) rfl (by kernel_rfl) (by kernel_rfl) (by kernel_rfl) (fun _ _ _ h => h) (Or.inl ⟨by rfl, ?_⟩) (by assumption) ?_
            rotate_left
            · intro w hSw; (try dsimp only at hSw); go_simp; try with_reducible rfl
            try simp only [Act.put, List.setIfInBounds_toArray, List.set_cons_zero, List.set_cons_succ]
            refine wpAnyH_take (i := 12) (oi := ⟨some 30, _, _, _, _, _⟩) (v := ?_) rfl (by kernel_rfl) (by kernel_rfl) (by kernel_rfl) (fun _ _ _ h => h) (Or.inl ⟨by rfl, ?_⟩) (by assumption) ?_
            rotate_left
            · intro w hSw; (try dsimp only at hSw); go_simp; try with_reducible rfl
            try simp only [Act.put, List.setIfInBounds_toArray, List.set_cons_zero, List.set_cons_succ]
            refine wpAnyH_take (i := 13) (oi := ⟨some 31, _, _, _, _, _⟩) (v := ?_) rfl (by kernel_rfl) (by kernel_rfl) (by kernel_rfl) (fun _ _ _ h => h) (Or.inl ⟨by rfl, ?_⟩) (by assumption) ?_
            rotate_left
            · intro w hSw; (try dsimp only at hSw); go_simp; try with_reducible rfl
            try simp only [Act.put, List.setIfInBounds_toArray, List.set_cons_zero, List.set_cons_succ]
            refine wpAnyH_take (i := 14) (oi := ⟨some 32, _, _, _, _, _⟩) (v := ?_) rfl (by kernel_rfl) (by kernel_rfl) (by kernel_rfl) (fun _ _ _ h => h) (Or.inl ⟨by rfl, ?_⟩) (by assumption) ?_
            rotate_left
            · intro w hSw; (try dsimp only at hSw); go_simp; try with_reducible rfl
            try simp only [Act.put, List.setIfInBounds_toArray, List.set_cons_zero, List.set_cons_succ]
            refine wpAnyH_take (i := 15) (oi := ⟨some 33, _, _, _, _, _⟩) (v := ?_) rfl (by kernel_rfl) (by kernel_rfl) (by kernel_rfl) (fun _ _ _ h => h) (Or.inl ⟨by rfl, ?_⟩) (by assumption) ?_
            rotate_left
            · intro w hSw; (try dsimp only at hSw); go_simp; try with_reducible rfl
            try simp only [Act.put, List.setIfInBounds_toArray, List.set_cons_zero, List.set_cons_succ]
            refine wpAnyH_take (i := 16) (oi := ⟨some 34, _, _, _, _, _⟩) (v := ?_) rfl (by kernel_rfl) (by kernel_rfl) (by kernel_rfl) (fun _ _ _ h => h) (Or.inl ⟨by rfl, ?_⟩) (by assumption) ?_
            rotate_left
            · intro w hSw; (try dsimp only at hSw); go_simp; try with_reducible rfl
            try simp only [Act.put, List.setIfInBounds_toArray, List.set_cons_zero, List.set_cons_succ]
            refine wpAnyH_ready (rs := [17]) (by kernel_rfl) (by simp) ?_
            refine AllReadyH.cons (o := ⟨some 35, _, _, _, _, _⟩) rfl (fun KK hKK => ?_) AllReadyH.nil
            go_simp
            refine Calls.mono (pturn_c _ _ _ _ _ _ _ (by assumption) (by assumption) (by assumption)) ?_
            rintro e w4 ⟨rfl, hb4⟩
            have hB4 : Below wi.heap.size wi w4 := (by repeat (first | exact Below.refl _ _ | assumption | refine bstep ?_ (by assumption) | refine Below.drew ?_ | refine balloc ?_ _ | refine Below.setCell ?_ (by first | omega | (simp <;> omega)) _))
            obtain ⟨hc4, hf4⟩ := bcell hB4
            have j4 := fun o => hc4 go o (by omega)
            have j5 := fun o => hc4 wo.heap.size o (by omega)
            clear hc4 hf4 hb4
            (try go_wp2_with fail)
            refine hKK.out _ _ (by first | (go_keep; done) | ((repeat' apply And.intro) <;> go_simp)) (fun hHeld => ?_)
            clear hKK KK
            try simp only [Act.put, List.setIfInBounds_toArray, List.set_cons_zero, List.set_cons_succ]
            refine wpAnyH_take (i := 18) (oi := ⟨some 36, _, _, _, _, _⟩) (v := ?_) rfl (by kernel_rfl) (by kernel_rfl) (by kernel_rfl) (fun _ _ _ h => h) (Or.inl ⟨by rfl, ?_⟩) (by assumption) ?_
            rotate_left
            · intro w hSw; (try dsimp only at hSw); go_simp; try with_reducible rfl
            try simp only [Act.put, List.setIfInBounds_toArray, List.set_cons_zero, List.set_cons_succ]
            refine wpAnyH_take (i := 19) (oi := ⟨some 37, _, _, _, _, _⟩) (v := ?_) rfl (by kernel_rfl) (by kernel_rfl) (by kernel_rfl) (fun _ _ _ h => h) (Or.inl ⟨by rfl, ?_⟩) (by assumption) ?_
            rotate_left
            · intro w hSw; (try dsimp only at hSw); go_simp; try with_reducible rfl
            try simp only [Act.put, List.setIfInBounds_toArray, List.set_cons_zero, List.set_cons_succ]
            refine wpAnyH_done (by kernel_rfl) ?_ _
            go_wp2
            go_roundw
            case rel =>
              have hj := HJ.out
              have e5 : (out.take (j + 1)).length = j + 1 := by rw [List.length_take]; omega
              refine ⟨_, out.take (j + 1), rfl, ?_, okL_take' hoo _, Lib.hid ?_, by omega, (hB4.cell (by omega)).trans q0, (hB4.cell (by omega)).trans q1, by have := hB4.size; omega, (by repeat (first | exact Below.refl _ _ | assumption | refine bstep ?_ (by assumption) | refine Below.drew ?_ | refine balloc ?_ _ | refine Below.setCell ?_ (by first | omega | (simp <;> omega)) _))⟩
              · rw [e5]
                exact own_take (own_below HN.out hB4) hj
              · have e6 := HP.out.trans HST.out
                rw [show out.length - 1 = j + 1 by omega] at e6
                exact e6
            case measure => simp [slLen]
        · have HST := Lib.hid (popN_stay (p := (p1, p2)) (out := out) (fun h => h2 h.1))
          obtain ⟨ps, cs2, rfl⟩ := own_form hown2
          have d9 : decide ((1 : Int) < (out.length : Int)) = false := decide_eq_false (by omega)
          have HN := Lib.hid hown2
          clear hown2
          go_wp2_with fail
          refine wp_region_held_drew (S := fun w' => True) (by kernel_rfl) (by first | (go_keep; done) | ((repeat' apply And.intro) <;> go_simp)) (fun hHeld => ?_)
          refine wpAnyH_take (i := 0) (oi := ⟨some 18, _, _, _, _, _⟩) (v := ?_) rfl (by kernel_rfl) (by kernel_rfl) (by kernel_rfl) (fun _ _ _ h => h) (Or.inl ⟨by rfl, ?_⟩) (by assumption) ?_
          rotate_left
          · intro w hSw; (try dsimp only at hSw); go_simp; try with_reducible rfl
          try simp only [Act.put, List.setIfInBounds_toArray, List.set_cons_zero, List.set_cons_succ]
          refine wpAnyH_take (i := 1) (oi := ⟨some 19, _, _, _, _, _⟩) (v := ?_) rfl (by kernel_rfl) (by kernel_rfl) (by kernel_rfl) (fun _ _ _ h => h) (Or.inl ⟨by rfl, ?_⟩) (by assumption) ?_
          rotate_left
          · intro w hSw; (try dsimp only at hSw); go_simp; try with_reducible rfl
          try simp only [Act.put, List.setIfInBounds_toArray, List.set_cons_zero, List.set_cons_succ]
          refine wpAnyH_take (i := 2) (oi := ⟨some 20, _, _, _, _, _⟩) (v := ?_) rfl (by kernel_rfl) (by kernel_rfl) (by kernel_rfl) (fun _ _ _ h => h) (Or.inl ⟨by rfl, ?_⟩) (by assumption) ?_
          rotate_left
          · intro w hSw; (try dsimp only at hSw); go_simp; try with_reducible rfl
          try simp only [Act.put, List.setIfInBounds_toArray, List.set_cons_zero, List.set_cons_succ]
          refine wpAnyH_take (i := 3) (oi := ⟨some 21, _, _, _, _, _⟩) (v := ?_) rfl (by kernel_rfl) (by kernel_rfl) (by kernel_rfl) (fun _ _ _ h => h) (Or.inl ⟨by rfl, ?_⟩) (by assumption) ?_
          rotate_left
          · intro w hSw; (try dsimp only at hSw); go_simp; try with_reducible rfl
          try simp only [Act.put, List.setIfInBounds_toArray, List.set_cons_zero, List.set_cons_succ]
          refine wpAnyH_take (i := 4) (oi := ⟨some 22, _, _, _, _, _⟩) (v := undef) rfl (by kernel_rfl) (by kernel_rfl) (by kernel_rfl) (fun _ _ _ h => h) (Or.inr ⟨by rfl, rfl⟩) (by assumption) ?_
          try simp only [Act.put, List.setIfInBounds_toArray, List.set_cons_zero, List.set_cons_succ]
          refine wpAnyH_take (i := 5) (oi := ⟨some 23, _, _, _, _, _⟩) (v := undef) rfl (by kernel_rfl) (by kernel_rfl) (by kernel_rfl) (fun _ _ _ h => h) (Or.inr ⟨by rfl, rfl⟩) (by assumption) ?_
          try simp only [Act.put, List.setIfInBounds_toArray, List.set_cons_zero, List.set_cons_succ]
          refine wpAnyH_take (i := 6) (oi := ⟨some 24, _, _, _, _, _⟩) (v := undef) rfl (by kernel_rfl) (by kernel_rfl) (by kernel_rfl) (fun _ _ _ h => h) (Or.inr ⟨by rfl, rfl⟩) (by assumption) ?_
          try simp only [Act.put, List.setIfInBounds_toArray, List.set_cons_zero, List.set_cons_succ]
          refine wpAnyH_take (i := 7) (oi := ⟨some 25, _, _, _, _, _⟩) (v := undef) rfl (by kernel_rfl) (by kernel_rfl) (by kernel_rfl) (fun _ _ _ h => h) (Or.inr ⟨by rfl, rfl⟩) (by assumption) ?_
          try simp only [Act.put, List.setIfInBounds_toArray, List.set_cons_zero, List.set_cons_succ]
          refine wpAnyH_take (i := 8) (oi := ⟨some 26, _, _, _, _, _⟩) (v := undef) rfl (by kernel_rfl) (by kernel_rfl) (by kernel_rfl) (fun _ _ _ h => h) (Or.inr ⟨by rfl, rfl⟩) (by assumption) ?_
          try simp only [Act.put, List.setIfInBounds_toArray, List.set_cons_zero, List.set_cons_succ]
          refine wpAnyH_take (i := 9) (oi := ⟨some 27, _, _, _, _, _⟩) (v := undef) rfl (by kernel_rfl) (by kernel_rfl) (by kernel_rfl) (fun _ _ _ h => h) (Or.inr ⟨by rfl, rfl⟩) (by assumption) ?_
          try simp only [Act.put, List.setIfInBounds_toArray, List.set_cons_zero, List.set_cons_succ]
          refine wpAnyH_take (i := 10) (oi := ⟨some 28, _, _, _, _, _⟩) (v := undef) rfl (by kernel_rfl) (by kernel_rfl) (by kernel_rfl) (fun _ _ _ h => h) (Or.inr ⟨by rfl, rfl⟩) (by assumption) ?_
          try simp only [Act.put, List.setIfInBounds_toArray, List.set_cons_zero, List.set_cons_succ]
          refine wpAnyH_take (i := 11) (oi := ⟨some 29, _, _, _, _, _⟩) (v := undef) rfl (by kernel_rfl) (by kernel_rfl) (by kernel_rfl) (fun _ _ _ h => h) (Or.inr ⟨by rfl, rfl⟩) (by assumption) ?_
          try simp only [Act.put, List.setIfInBounds_toArray, List.set_cons_zero, List.set_cons_succ]
          refine wpAnyH_take (i := 12) (oi := ⟨some 30, _, _, _, _, _⟩) (v := undef) rfl (by kernel_rfl) (by kernel_rfl) (by kernel_rfl) (fun _ _ _ h => h) (Or.inr ⟨by rfl, rfl⟩) (by assumption) ?_
          try simp only [Act.put, List.setIfInBounds_toArray, List.set_cons_zero, List.set_cons_succ]
          refine wpAnyH_take (i := 13) (oi := ⟨some 31, _, _, _, _, _⟩) (v := undef) rfl (by kernel_rfl) (by kernel_rfl) (by kernel_rfl) (fun _ _ _ h => h) (Or.inr ⟨by rfl, rfl⟩) (by assumption) ?_
          try simp only [Act.put, List.setIfInBounds_toArray, List.set_cons_zero, List.set_cons_succ]
          refine wpAnyH_take (i := 14) (oi := ⟨some 32, _, _, _, _, _⟩) (v := undef) rfl (by kernel_rfl) (by kernel_rfl) (by kernel_rfl) (fun _ _ _ h => h) (Or.inr ⟨by rfl, rfl⟩) (by assumption) ?_
          try simp only [Act.put, List.setIfInBounds_toArray, List.set_cons_zero, List.set_cons_succ]
          refine wpAnyH_take (i := 15) (oi := ⟨some 33, _, _, _, _, _⟩) (v := undef) rfl (by kernel_rfl) (by kernel_rfl) (by kernel_rfl) (fun _ _ _ h => h) (Or.inr ⟨by rfl, rfl⟩) (by assumption) ?_
          try simp only [Act.put, List.setIfInBounds_toArray, List.set_cons_zero, List.set_cons_succ]
          refine wpAnyH_take (i := 16) (oi := ⟨some 34, _, _, _, _, _⟩) (v := undef) rfl (by kernel_rfl) (by kernel_rfl) (by kernel_rfl) (fun _ _ _ h => h) (Or.inr ⟨by rfl, rfl⟩) (by assumption) ?_
          try simp only [Act.put, List.setIfInBounds_toArray, List.set_cons_zero, List.set_cons_succ]
          refine wpAnyH_take (i := 17) (oi := ⟨some 35, _, _, _, _, _⟩) (v := undef) rfl (by kernel_rfl) (by kernel_rfl) (by kernel_rfl) (fun _ _ _ h => h) (Or.inr ⟨by rfl, rfl⟩) (by assumption) ?_
          try simp only [Act.put, List.setIfInBounds_toArray, List.set_cons_zero, List.set_cons_succ]
          refine wpAnyH_take (i := 18) (oi := ⟨some 36, _, _, _, _, _⟩) (v := undef) rfl (by kernel_rfl) (by kernel_rfl) (by kernel_rfl) (fun _ _ _ h => h) (Or.inr ⟨by rfl, rfl⟩) (by assumption) ?_
          try simp only [Act.put, List.setIfInBounds_toArray, List.set_cons_zero, List.set_cons_succ]
          refine wpAnyH_take (i := 19) (oi := ⟨some 37, _, _, _, _, _⟩) (v := ?_) rfl (by kernel_rfl) (by kernel_rfl) (by kernel_rfl) (fun _ _ _ h => h) (Or.inl ⟨by rfl, ?_⟩) (by assumption) ?_
          rotate_left
          · intro w hSw; (try dsimp only at hSw); go_simp; try with_reducible rfl
          try simp only [Act.put, List.setIfInBounds_toArray, List.set_cons_zero, List.set_cons_succ]
          refine wpAnyH_done (by kernel_rfl) ?_ _
          have HOW : wi.drew.ownsRow W1.heap.size 28 2 _ _ (flatP out) := HN.out.drew
          have hBX : Below W1.heap.size W1 wi.drew := (by repeat (first | exact Below.refl _ _ | assumption | refine bstep ?_ (by assumption) | refine Below.drew ?_ | refine balloc ?_ _ | refine Below.setCell ?_ (by first | omega | (simp <;> omega)) _))
          go_wp2_with (at_builtin; go_must (refine wpList_append_own _ rfl _ _ 22 rfl W1.heap.size 28 i0 (.agg #[(.int .i64 0), (.int .i64 0)]) 2 16 Try.underlying22 HI.out hz0 hz1 hz2 rfl (by decide) _ _ _ rfl (HOW.alloc _) ⟨wi.drew.heap.size, 0, none⟩ 1 1 [(.int .i64 p1), (.int .i64 p2)] rfl rfl (two_new _ _ _ _) (by simp [Value.oneCell']) (by unfold maxLen; omega) (by omega) (by have := hBX.size; simp; omega) ?_); intro v' w1 hown' hgrow _)
          have hR1 := below_app hBX (by have := hBX.size; omega) HOW hgrow
          have hR2 := own_app (out := out) hown' rfl
          have e3 : chK s (k + 1) = out ++ [(p1, p2)] := by rw [HCK.out, HP.out, HST.out]
          rw [← e3] at hR2
          have HR2 := Lib.hid hR2
          clear hown' hgrow hR2 e3
          go_wp2
          go_roundw
          case rel => exact ⟨k + 1, _, by simp, by omega, rfl, HR2.out, hR1⟩
          case measure => simp [intOf]; omega
    · obtain rfl : k = l.length := by omega
      have HO := Lib.hid hown
      clear hown
      go_wp2
      go_ret
      exact ⟨_, rfl, own_base HO.out hB1.size, hB1.trans (hbel.mono hB1.size)⟩


end Go.Proofs.Ytphcmdmfjhjidaa.Po
