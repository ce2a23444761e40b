/- SecL: holds. -/
import Derived.Test.YtpadkmlckmopfaaSecK
import Derived.Test.YtpadkmlckmopfaaSecH
import Derived.RangeFuncNested
import Derived.RangeFuncBound
import Derived.RangeFuncCalls
import Derived.RangeFuncLeaves
import Derived.Shelf.Abstract
import Derived.Shelf.RegionOpen
import Derived.WalkKit
import Derived.OwnWalkIn
import Derived.TacticsInMore
import Derived.LoopNIn
import Derived.LoopIn
import Derived.Outline
import Derived.IntWalk
import Derived.Lib.Hide
import Derived.StillTailTactics
import Derived.BigRegion
import Derived.Deep.RegionWith
import Derived.RangeFuncBox
import Derived.Maps.AppendAt
namespace Go.Proofs.Ytpadkmlckmopfaa.Se
open Go.RowKit Go.Shelf
set_option linter.unusedSimpArgs false
set_option linter.unusedVariables false

attribute [local go_sem] Oper.semAt_some
def Box2 (W : World) (B : Nat) (t : TypeId) (p : V) : Prop := W.heap[B]? = some (.cells #[(.int .i64 (p.1)), (.int .i64 (p.2))] t (0, 0))
theorem Box2.lt {W : World} {B : Nat} {t : TypeId} {p : V} (h : Box2 W B t p) : B < W.heap.size := (Array.getElem?_eq_some_iff.1 h).1
theorem Box2.c0 {W : World} {B : Nat} {t : TypeId} {p : V} (h : Box2 W B t p) : W.cell? ⟨B, 0, none⟩ = some (.int .i64 (p.1)) := by simp [World.cell?, show W.heap[B]? = _ from h]
theorem Box2.c1 {W : World} {B : Nat} {t : TypeId} {p : V} (h : Box2 W B t p) : W.cell? ⟨B, 1, none⟩ = some (.int .i64 (p.2)) := by simp [World.cell?, show W.heap[B]? = _ from h]
theorem Box2.new (W : World) (t : TypeId) (p : V) : Box2 (W.alloc (.cells #[(.int .i64 (p.1)), (.int .i64 (p.2))] t)) W.heap.size t p := World.alloc_heap_new W _
theorem box2_own {β : Type} (B : Nat) (t : TypeId) (f : β → V) : Own (fun s W => Box2 W B t (f s)) := fun s X Y row hs hg hrow => by
  have h := hs
  refine (hg.block B h.lt (fun e => ?_)).trans hs
  obtain ⟨o, ho, hc⟩ := hrow B e.symm
  rw [show X.heap[B]? = _ from hs] at ho
  cases ho
  cases hc
theorem bxd_below {W W' : World} {B m : Nat} {t : TypeId} {v : Value} (h : Boxed W B t v) (hb : Below m W W') (hm : B < m) : Boxed W' B t v := (hb.block B hm).trans h
theorem shown_s {va : Value} {l : List Sec} (v1 v2 : Int) {w : World} (h : Secs w va l) (h24 : l.length ≤ 24) (hall : allS l) (hv : okW (v1, v2)) :
    Calls Try.prog 39 #[va, (.agg #[.int .i64 v1, .int .i64 v2])] w (Ret w (.agg #[(.int .i64 0), (.int .i64 0), (.int .i64 0), (.int .i64 0), (.int .i64 ((shL l (v1, v2)).1)), (.int .i64 ((shL l (v1, v2)).2))])) := by
  obtain ⟨⟨p, cap, rfl, hn, hc, hp⟩, hl⟩ := h
  exact shown_c p cap l v1 v2 w h24 hall hv hp
/-- The turns of a light, as directions. -/
def badD (a b : List Sec) (c : Int) (pre : List Di) : Bool := pre.any fun x => badV a b c x.1
theorem badD_snoc (a b : List Sec) (c : Int) (pre : List Di) (x : Di) : badD a b c (pre ++ [x]) = (badD a b c pre || badV a b c x.1) := by simp [badD]
theorem badD_mono {a b : List Sec} {c : Int} {es fs : List Di} (h : es <+: fs) (ho : badD a b c es = true) : badD a b c fs = true := by
  obtain ⟨gs, rfl⟩ := h
  unfold badD at *
  rw [List.any_append, ho]
  rfl
theorem badD_ho {a b : List Sec} {c : Int} (h : allS (a ++ b)) : (!badD a b c (tuD (a ++ b))) = hoL a b c := by
  unfold hoL badD
  rw [← tuD_val h, List.all_map, List.any_eq_not_all_not, Bool.not_not]
  rfl
theorem allS_app {a b : List Sec} (ha : allS a) (hb : allS b) : allS (a ++ b) := by
  intro i hi
  obtain h := gs_mem hi
  rcases List.mem_append.1 h with h | h
  · obtain ⟨j, hj, e⟩ := mem_gs h
    rw [← e]; exact ha j hj
  · obtain ⟨j, hj, e⟩ := mem_gs h
    rw [← e]; exact hb j hj
theorem two_fl (a b : List Sec) : [a, b].flatten = a ++ b := by simp

set_option maxRecDepth 100000 in
set_option maxHeartbeats 16000000 in
theorem holds_in (n : Nat) (hn : 6 ≤ n) (va vb : Value) (c : Int) (a b : List Sec) (w : World) (ha : Secs w va a) (hb : Secs w vb b) (a24 : a.length ≤ 24) (b24 : b.length ≤ 24) (alla : allS a) (allb : allS b) :
    CallsIn Fence.wide n Try.prog 42 #[va, vb, (.int .i64 c)] w fun e W' => e = .returned (.bool (!badD a b c (tuD (a ++ b)))) ∧ Below w.heap.size w W' := by
  have h1 : 1 ≤ n := by omega
  have hab := allS_app alla allb
  obtain ⟨pa, ca, rfl⟩ : ∃ p c, va = .slice p a.length c := by obtain ⟨⟨p, c, h, _⟩, _⟩ := ha; exact ⟨p, c, h⟩
  obtain ⟨pb, cb, rfl⟩ : ∃ p c, vb = .slice p b.length c := by obtain ⟨⟨p, c, h, _⟩, _⟩ := hb; exact ⟨p, c, h⟩
  refine callsIn_of_wp_marks Try.func42 rfl trivial ?_ rfl
  simp only [Try.ntmps42, List.size_toArray, List.length_cons, List.length_nil, Nat.reduceAdd, Nat.reduceSub, Array.replicate_succ, Array.replicate_zero, List.push_toArray, List.append_toArray, List.nil_append, List.cons_append]
  gi_wp2_with (refine ⟨trivial, ?_⟩; gi_at_call 55; refine (callsIn_wide.2 (turns_c _ _ _ _)).mono ?_; rintro e w' ⟨rfl, rfl⟩)
  obtain ⟨W0, hW0⟩ : ∃ W0, ((((((w.alloc (.cells #[(.slice pa a.length ca)] 53)).alloc (.cells #[(.slice pb b.length cb)] 53)).alloc (.cells #[(.int .i64 c)] 3)).alloc (.cells #[(.bool false)] 4)).alloc (.cells #[(.slice pa a.length ca), (.slice pb b.length cb)] 53)).alloc (.cells #[.slice (some ⟨w.heap.size + 1 + 1 + 1 + 1, 0, none⟩) 2 2] 88)) = W0 := ⟨_, rfl⟩
  have kA : W0.cell? ⟨w.heap.size, 0, none⟩ = some ((.slice pa a.length ca)) := by rw [← hW0]; clear hW0; go_simp
  have kB : W0.cell? ⟨w.heap.size + 1, 0, none⟩ = some ((.slice pb b.length cb)) := by rw [← hW0]; clear hW0; go_simp
  have kC : W0.cell? ⟨w.heap.size + 1 + 1, 0, none⟩ = some (.int .i64 c) := by rw [← hW0]; clear hW0; go_simp
  have bR : Boxed W0 (w.heap.size + 1 + 1 + 1) 4 (.bool false) := by
    rw [← hW0]
    have := ((Boxed.new (((w.alloc (.cells #[(.slice pa a.length ca)] 53)).alloc (.cells #[(.slice pb b.length cb)] 53)).alloc (.cells #[(.int .i64 c)] 3)) 4 (.bool false)).alloc (.cells #[(.slice pa a.length ca), (.slice pb b.length cb)] 53)).alloc (.cells #[.slice (some ⟨w.heap.size + 1 + 1 + 1 + 1, 0, none⟩) 2 2] 88)
    simpa only [World.size_alloc] using this
  have kQ : ∀ i, i < 2 → W0.cell? ⟨w.heap.size + 1 + 1 + 1 + 1, i, none⟩ = some (if i = 0 then (.slice pa a.length ca) else (.slice pb b.length cb)) := fun i hi => by
    rw [← hW0]; clear hW0
    rcases (show i = 0 ∨ i = 1 by omega) with rfl | rfl
    · go_simp
    · go_simp
  have kS : W0.cell? ⟨w.heap.size + 1 + 1 + 1 + 1 + 1, 0, none⟩ = some (.slice (some ⟨w.heap.size + 1 + 1 + 1 + 1, 0, none⟩) 2 2) := by rw [← hW0]; clear hW0; go_simp
  have hB0 : Below w.heap.size w W0 := by rw [← hW0]; clear hW0; exact (by repeat (first | with_reducible exact Below.refl _ _ | with_reducible assumption | with_reducible refine Below.setCell ?_ (by first | omega | (simp <;> omega)) _ | with_reducible refine balloc ?_ _ | with_reducible refine Below.drew ?_ | with_reducible refine bstep ?_ (by with_reducible assumption)))
  have hsz : W0.heap.size = w.heap.size + 6 := by rw [← hW0]; simp
  rw [hW0]
  clear hW0
  have hL : Lis W0 (w.heap.size + 1 + 1 + 1 + 1) [a, b] (fun i => if i = 0 then (.slice pa a.length ca) else (.slice pb b.length cb)) := ⟨by simp, by simp, fun i hi => by
      rcases (show i = 0 ∨ i = 1 by simp at hi; omega) with rfl | rfl
      · exact a24
      · exact b24, fun i hi => ⟨kQ i (by simpa using hi), by
      rcases (show i = 0 ∨ i = 1 by simp at hi; omega) with rfl | rfl
      · exact ha.below hB0
      · exact hb.below hB0⟩⟩
  have HSA := Lib.hid ha
  have HSB := Lib.hid hb
  clear ha hb kQ
  refine wpIn_rangeFunc_ownH rfl h1 (gf := 67) (lb := #[.pointer (some ⟨w.heap.size + 1 + 1 + 1 + 1 + 1, 0, none⟩)]) rfl trivial (enters_of Try.func67 (by kernel_rfl) rfl)
    (turns_stops (n - 1) (by omega) (w.heap.size + 1 + 1 + 1 + 1 + 1) (w.heap.size + 1 + 1 + 1 + 1 + 1 + 1) (w.heap.size + 1 + 1 + 1 + 1) [a, b] _ [w.heap.size + 1 + 1 + 1] (by simp) (by rw [two_fl]; exact hab) W0 kS (by omega) hL) kp_t (kp_b (by omega)) (Below.refl _ _) (fun _ => rfl)
    (fun pre W => (badD a b c pre = false ∧ Boxed W (w.heap.size + 1 + 1 + 1) 4 (.bool false)) ∧ Kp [w.heap.size + 1 + 1 + 1] (w.heap.size + 1 + 1 + 1 + 1 + 1 + 1) W0 W)
    (fun cc pre W => ((cc = .ret ∧ badD a b c pre = true) ∧ Boxed W (w.heap.size + 1 + 1 + 1) 4 (.bool false)) ∧ Kp [w.heap.size + 1 + 1 + 1] (w.heap.size + 1 + 1 + 1 + 1 + 1 + 1) W0 W)
    (OwnFrom.and (OwnFrom.and (ownFrom_pure _ _) (Own.from (boxed_own _ _ (fun _ => (.bool false))) _)) (ownFrom_kp (by omega) (by omega)))
    (fun cc => OwnFrom.and (OwnFrom.and (ownFrom_pure _ _) (Own.from (boxed_own _ _ (fun _ => (.bool false))) _)) (ownFrom_kp (by omega) (by omega)))
    ⟨⟨rfl, bR⟩, Kp.refl _ _ _⟩
    (fun x a' W => ∃ Bx, Box2 W Bx 55 x.1 ∧ w.heap.size + 1 + 1 + 1 + 1 + 1 + 1 ≤ Bx ∧ a' = { tmps := #[(.slice pa a.length ca), (.slice pb b.length cb), (.int .i64 c), .pointer (some ⟨w.heap.size, 0, none⟩), .pointer (some ⟨w.heap.size + 1, 0, none⟩), .pointer (some ⟨w.heap.size + 1 + 1, 0, none⟩), .pointer (some ⟨w.heap.size + 1 + 1 + 1, 0, none⟩), .pointer (some ⟨Bx, 0, none⟩), undef, undef, (.slice pa a.length ca), (.slice pb b.length cb), .slice (some ⟨w.heap.size + 1 + 1 + 1 + 1, 0, none⟩) 2 2, .func (.func 67) #[] #[.pointer (some ⟨w.heap.size + 1 + 1 + 1 + 1 + 1, 0, none⟩)], .agg #[(.int .i64 (x.1.1)), (.int .i64 (x.1.2))], undef, undef, undef, undef, undef, undef, undef, undef, undef, undef, undef, undef, undef, undef, undef, undef, undef, undef, undef, undef, undef, undef, undef], defers := [] })
    (fun x a' _ X Y row hs hg hr => by
      obtain ⟨Bx, e1, e4, e3⟩ := hs
      exact ⟨Bx, box2_own Bx _ (fun (_ : Unit) => x.1) () X Y row e1 hg (fun r e => (hr r e).2), e4, e3⟩)
    ?assign ?body ?done ?stop
  case assign =>
    rintro ll pre x W K ⟨⟨hbad, bR1⟩, hK1⟩ hK
    have hs1 := hK1.but.size
    unfold encD
    gi_wp2
    exact hK _ _ ((KeepsOthers.alloc _ _).from _) ((Kp.refl _ _ W).alloc (by omega) _) ⟨⟨hbad, bR1.alloc _⟩, hK1.alloc (by omega) _⟩ ⟨_, Box2.new W _ x.1, by omega, rfl⟩
  case body =>
    rintro ll pre ⟨⟨x1, x2⟩, hx⟩ a' W hll ⟨r, hr⟩ ⟨⟨hbad, bR1⟩, hK1⟩ ⟨Bx, bx, hBx, rfl⟩ hlt
    have hsW := hK1.but.size
    have HO := Lib.hid (badD_snoc a b c pre ⟨(x1, x2), hx⟩)
    have HN := Lib.hid hbad
    clear hbad
    have hBW : Below w.heap.size w W := hB0.trans (hK1.but.below (by omega) (by simp; omega))
    have ka0 : W.cell? ⟨w.heap.size, 0, none⟩ = some ((.slice pa a.length ca)) := (hK1.but.cell (p := ⟨w.heap.size, 0, none⟩) (by simp <;> omega) (by simp <;> omega)).trans kA
    have kb0 : W.cell? ⟨w.heap.size + 1, 0, none⟩ = some ((.slice pb b.length cb)) := (hK1.but.cell (p := ⟨w.heap.size + 1, 0, none⟩) (by simp <;> omega) (by simp <;> omega)).trans kB
    have kc0 : W.cell? ⟨w.heap.size + 1 + 1, 0, none⟩ = some (.int .i64 c) := (hK1.but.cell (p := ⟨w.heap.size + 1 + 1, 0, none⟩) (by simp <;> omega) (by simp <;> omega)).trans kC
    have kx0 : W.cell? ⟨Bx, 0, none⟩ = some (.int .i64 x1) := bx.c0
    have kx1 : W.cell? ⟨Bx, 1, none⟩ = some (.int .i64 x2) := bx.c1
    have kr0 : W.cell? ⟨w.heap.size + 1 + 1 + 1, 0, none⟩ = some (.bool false) := bR1.cell
    have jr0 : W.frozen? ⟨w.heap.size + 1 + 1 + 1, 0, none⟩ = false := bR1.frozen
    have za : w.heap.size < W.heap.size := by omega
    have zb : w.heap.size + 1 < W.heap.size := by omega
    have zc : w.heap.size + 1 + 1 < W.heap.size := by omega
    have zr : w.heap.size + 1 + 1 + 1 < W.heap.size := by omega
    have zx := bx.lt
    have za_W := za
    have zb_W := zb
    have zc_W := zc
    have zr_W := zr
    have zx_W := zx
    have hxw : okW (x1, x2) := okD_W hx
    have SA : ∀ W', Below W.heap.size W W' → Calls Try.prog 39 #[(.slice pa a.length ca), .agg #[(.int .i64 x1), (.int .i64 x2)]] W' (Ret W' (.agg #[(.int .i64 0), (.int .i64 0), (.int .i64 0), (.int .i64 0), (.int .i64 ((shL a (x1, x2)).1)), (.int .i64 ((shL a (x1, x2)).2))])) := fun W' h => shown_s x1 x2 (HSA.out.below (bstep hBW h)) a24 alla hxw
    have SB : ∀ W', Below W.heap.size W W' → Calls Try.prog 39 #[(.slice pb b.length cb), .agg #[(.int .i64 x1), (.int .i64 x2)]] W' (Ret W' (.agg #[(.int .i64 0), (.int .i64 0), (.int .i64 0), (.int .i64 0), (.int .i64 ((shL b (x1, x2)).1)), (.int .i64 ((shL b (x1, x2)).2))])) := fun W' h => shown_s x1 x2 (HSB.out.below (bstep hBW h)) b24 allb hxw
    have HV := Lib.hid (show badV a b c (x1, x2) = (decide ((shL a (x1, x2)).1 = c) && (!decide ((shL b (x1, x2)).1 = c) || decide ((shL b (x1, x2)).2 < (shL a (x1, x2)).2))) from rfl)
    generalize shL a (x1, x2) = sa at *
    generalize shL b (x1, x2) = sb at *
    obtain ⟨sa1, sa2⟩ := sa
    obtain ⟨sb1, sb2⟩ := sb
    dsimp only at SA SB
    have hb0 : Below W.heap.size W W := Below.refl _ _
    gi_wp2_with fail
    refine wpIn_mono (Q := NoPanic (fun e2 a2 W2 => e2 = .normal ∧ ∃ gm gi : Nat, a2 = { tmps := #[(.slice pa a.length ca), (.slice pb b.length cb), (.int .i64 c), .pointer (some ⟨w.heap.size, 0, none⟩), .pointer (some ⟨w.heap.size + 1, 0, none⟩), .pointer (some ⟨w.heap.size + 1 + 1, 0, none⟩), .pointer (some ⟨w.heap.size + 1 + 1 + 1, 0, none⟩), .pointer (some ⟨Bx, 0, none⟩), .pointer (some ⟨gm, 0, none⟩), .pointer (some ⟨gi, 0, none⟩), (.slice pa a.length ca), (.slice pb b.length cb), .slice (some ⟨w.heap.size + 1 + 1 + 1 + 1, 0, none⟩) 2 2, .func (.func 67) #[] #[.pointer (some ⟨w.heap.size + 1 + 1 + 1 + 1 + 1, 0, none⟩)], .agg #[(.int .i64 x1), (.int .i64 x2)], (.slice pa a.length ca), .agg #[(.int .i64 x1), (.int .i64 x2)], .agg #[(.int .i64 0), (.int .i64 0), (.int .i64 0), (.int .i64 0), (.int .i64 sa1), (.int .i64 sa2)], (.slice pb b.length cb), .agg #[(.int .i64 x1), (.int .i64 x2)], .agg #[(.int .i64 0), (.int .i64 0), (.int .i64 0), (.int .i64 0), (.int .i64 sb1), (.int .i64 sb2)], undef, undef, undef, undef, undef, undef, undef, undef, undef, undef, undef, undef, undef, undef, undef, undef, undef], defers := [] } ∧ W2.cell? ⟨gm, 0, none⟩ = some (.int .i64 0) ∧ W2.cell? ⟨gm, 1, none⟩ = some (.int .i64 0) ∧ W2.cell? ⟨gm, 2, none⟩ = some (.int .i64 0) ∧ W2.cell? ⟨gm, 3, none⟩ = some (.int .i64 0) ∧ W2.cell? ⟨gm, 4, none⟩ = some (.int .i64 sa1) ∧ W2.cell? ⟨gm, 5, none⟩ = some (.int .i64 sa2) ∧ W2.cell? ⟨gi, 0, none⟩ = some (.int .i64 0) ∧ W2.cell? ⟨gi, 1, none⟩ = some (.int .i64 0) ∧ W2.cell? ⟨gi, 2, none⟩ = some (.int .i64 0) ∧ W2.cell? ⟨gi, 3, none⟩ = some (.int .i64 0) ∧ W2.cell? ⟨gi, 4, none⟩ = some (.int .i64 sb1) ∧ W2.cell? ⟨gi, 5, none⟩ = some (.int .i64 sb2) ∧ W2.cell? ⟨w.heap.size, 0, none⟩ = some (.slice pa a.length ca) ∧ W2.cell? ⟨w.heap.size + 1, 0, none⟩ = some (.slice pb b.length cb) ∧ W2.cell? ⟨w.heap.size + 1 + 1, 0, none⟩ = some (.int .i64 c) ∧ W2.cell? ⟨Bx, 0, none⟩ = some (.int .i64 x1) ∧ W2.cell? ⟨Bx, 1, none⟩ = some (.int .i64 x2) ∧ W2.cell? ⟨w.heap.size + 1 + 1 + 1, 0, none⟩ = some (.bool false) ∧ Below W.heap.size W W2)) ?region (fun e2 a2 W2 h => ?rest)
    case region =>
      have hHeld : (fun w' : World => w'.cell? ⟨w.heap.size, 0, none⟩ = some (.slice pa a.length ca) ∧ w'.cell? ⟨w.heap.size + 1, 0, none⟩ = some (.slice pb b.length cb) ∧ w'.cell? ⟨Bx, 0, none⟩ = some (.int .i64 x1) ∧ w'.cell? ⟨Bx, 1, none⟩ = some (.int .i64 x2)) W.drew := (by first | (go_keep; done) | ((repeat' apply And.intro) <;> go_simp))
      refine wpIn_region_heldF (S := fun w' => w'.cell? ⟨w.heap.size, 0, none⟩ = some (.slice pa a.length ca) ∧ w'.cell? ⟨w.heap.size + 1, 0, none⟩ = some (.slice pb b.length cb) ∧ w'.cell? ⟨Bx, 0, none⟩ = some (.int .i64 x1) ∧ w'.cell? ⟨Bx, 1, none⟩ = some (.int .i64 x2)) (by kernel_rfl) ?_
      refine wpAnyHF_take (i := 0) (oi := ⟨some 15, _, _, _, _, _⟩) (v := ?_) (by kernel_rfl) rfl (by kernel_rfl) (by kernel_rfl) (by kernel_rfl) (fun _ _ _ h => h) (Or.inl ⟨by rfl, ?_⟩) (fun _ => rfl) (by assumption) ?_
      rotate_left
      · intro w hSw; (try dsimp only at hSw); go_simp; try with_reducible rfl
      try simp only [Act.put, List.setIfInBounds_toArray, List.set_cons_zero, List.set_cons_succ]
      refine wpAnyHF_take (i := 1) (oi := ⟨some 16, _, _, _, _, _⟩) (v := ?_) (by kernel_rfl) rfl (by kernel_rfl) (by kernel_rfl) (by kernel_rfl) (fun _ _ _ h => h) (Or.inl ⟨by rfl, ?_⟩) (fun _ => rfl) (by assumption) ?_
      rotate_left
      · intro w hSw; (try dsimp only at hSw); go_simp; try with_reducible rfl
      try simp only [Act.put, List.setIfInBounds_toArray, List.set_cons_zero, List.set_cons_succ]
      refine wpAnyHF_take (i := 3) (oi := ⟨some 18, _, _, _, _, _⟩) (v := ?_) (by kernel_rfl) rfl (by kernel_rfl) (by kernel_rfl) (by kernel_rfl) (fun _ _ _ h => h) (Or.inl ⟨by rfl, ?_⟩) (fun _ => rfl) (by assumption) ?_
      rotate_left
      · intro w hSw; (try dsimp only at hSw); go_simp; try with_reducible rfl
      try simp only [Act.put, List.setIfInBounds_toArray, List.set_cons_zero, List.set_cons_succ]
      refine wpAnyHF_take (i := 4) (oi := ⟨some 19, _, _, _, _, _⟩) (v := ?_) (by kernel_rfl) rfl (by kernel_rfl) (by kernel_rfl) (by kernel_rfl) (fun _ _ _ h => h) (Or.inl ⟨by rfl, ?_⟩) (fun _ => rfl) (by assumption) ?_
      rotate_left
      · intro w hSw; (try dsimp only at hSw); go_simp; try with_reducible rfl
      try simp only [Act.put, List.setIfInBounds_toArray, List.set_cons_zero, List.set_cons_succ]
      refine wpAnyHF_ready (rs := [2, 6, 7]) (by kernel_rfl) (by simp) ?_
      refine allF_cons (OneF.mk' (o := ⟨some 17, _, _, _, _, _⟩) rfl (by rfl) (fun KK hKK => ?_)) (allF_cons (OneF.mk' (o := ⟨some 8, _, _, _, _, _⟩) rfl (by rfl) (fun KK hKK => ?_)) (allF_cons (OneF.mk' (o := ⟨some 9, _, _, _, _, _⟩) rfl (by rfl) (fun KK hKK => ?_)) allF_nil))
      · go_simp
        (try gi_wp2_with fail)
        refine ⟨trivial, ?_⟩
        (try refine ⟨(fun h => by cases h), ?_⟩)
        refine (CallsIn.inRound ll (callsIn_wide.2 (SA _ (by repeat (first | with_reducible exact Below.refl _ _ | with_reducible assumption | with_reducible refine Below.setCell ?_ (by first | omega | (simp <;> omega)) _ | with_reducible refine balloc ?_ _ | with_reducible refine Below.drew ?_ | with_reducible refine bstep ?_ (by with_reducible assumption)))))).mono ?_
        rintro e wt1 ⟨rfl, hb⟩
        replace ka0 := cell_later hb ka0
        replace kb0 := cell_later hb kb0
        replace kc0 := cell_later hb kc0
        replace kx0 := cell_later hb kx0
        replace kx1 := cell_later hb kx1
        replace jr0 := fro_later hb kr0 jr0
        replace kr0 := cell_later hb kr0
        replace za : w.heap.size < wt1.heap.size := World.block_lt_of_cell? _ _ ka0
        have za_wt1 := za
        replace zb : w.heap.size + 1 < wt1.heap.size := World.block_lt_of_cell? _ _ kb0
        have zb_wt1 := zb
        replace zc : w.heap.size + 1 + 1 < wt1.heap.size := World.block_lt_of_cell? _ _ kc0
        have zc_wt1 := zc
        replace zx : Bx < wt1.heap.size := World.block_lt_of_cell? _ _ kx0
        have zx_wt1 := zx
        replace zr : w.heap.size + 1 + 1 + 1 < wt1.heap.size := World.block_lt_of_cell? _ _ kr0
        have zr_wt1 := zr
        replace hb0 : Below W.heap.size W wt1 := (by repeat (first | with_reducible exact Below.refl _ _ | with_reducible assumption | with_reducible refine Below.setCell ?_ (by first | omega | (simp <;> omega)) _ | with_reducible refine balloc ?_ _ | with_reducible refine Below.drew ?_ | with_reducible refine bstep ?_ (by with_reducible assumption)))
        have hs_wt1 : W.heap.size ≤ wt1.heap.size := hb.size
        clear hb
        (try gi_wp2_with fail)
        refine hKK _ _ (by first | (go_keep; done) | ((repeat' apply And.intro) <;> go_simp)) (fun hHeld => ?_)
        clear hKK KK
        try simp only [Act.put, List.setIfInBounds_toArray, List.set_cons_zero, List.set_cons_succ]
        refine wpAnyHF_ready (rs := [5, 6, 7]) (by kernel_rfl) (by simp) ?_
        refine allF_cons (OneF.mk' (o := ⟨some 20, _, _, _, _, _⟩) rfl (by rfl) (fun KK hKK => ?_)) (allF_cons (OneF.mk' (o := ⟨some 8, _, _, _, _, _⟩) rfl (by rfl) (fun KK hKK => ?_)) (allF_cons (OneF.mk' (o := ⟨some 9, _, _, _, _, _⟩) rfl (by rfl) (fun KK hKK => ?_)) allF_nil))
        · go_simp
          (try gi_wp2_with fail)
          refine ⟨trivial, ?_⟩
          (try refine ⟨(fun h => by cases h), ?_⟩)
          refine (CallsIn.inRound ll (callsIn_wide.2 (SB _ (by repeat (first | with_reducible exact Below.refl _ _ | with_reducible assumption | with_reducible refine Below.setCell ?_ (by first | omega | (simp <;> omega)) _ | with_reducible refine balloc ?_ _ | with_reducible refine Below.drew ?_ | with_reducible refine bstep ?_ (by with_reducible assumption)))))).mono ?_
          rintro e wt2 ⟨rfl, hb⟩
          replace ka0 := cell_later hb ka0
          replace kb0 := cell_later hb kb0
          replace kc0 := cell_later hb kc0
          replace kx0 := cell_later hb kx0
          replace kx1 := cell_later hb kx1
          replace jr0 := fro_later hb kr0 jr0
          replace kr0 := cell_later hb kr0
          replace za : w.heap.size < wt2.heap.size := World.block_lt_of_cell? _ _ ka0
          have za_wt2 := za
          replace zb : w.heap.size + 1 < wt2.heap.size := World.block_lt_of_cell? _ _ kb0
          have zb_wt2 := zb
          replace zc : w.heap.size + 1 + 1 < wt2.heap.size := World.block_lt_of_cell? _ _ kc0
          have zc_wt2 := zc
          replace zx : Bx < wt2.heap.size := World.block_lt_of_cell? _ _ kx0
          have zx_wt2 := zx
          replace zr : w.heap.size + 1 + 1 + 1 < wt2.heap.size := World.block_lt_of_cell? _ _ kr0
          have zr_wt2 := zr
          replace hb0 : Below W.heap.size W wt2 := (by repeat (first | with_reducible exact Below.refl _ _ | with_reducible assumption | with_reducible refine Below.setCell ?_ (by first | omega | (simp <;> omega)) _ | with_reducible refine balloc ?_ _ | with_reducible refine Below.drew ?_ | with_reducible refine bstep ?_ (by with_reducible assumption)))
          have hs_wt2 : wt1.heap.size ≤ wt2.heap.size := hb.size
          clear hb
          (try gi_wp2_with fail)
          refine hKK _ _ (by first | (go_keep; done) | ((repeat' apply And.intro) <;> go_simp)) (fun hHeld => ?_)
          clear hKK KK
          try simp only [Act.put, List.setIfInBounds_toArray, List.set_cons_zero, List.set_cons_succ]
          refine wpAnyHF_ready (rs := [6, 7]) (by kernel_rfl) (by simp) ?_
          refine allF_cons (OneF.mk' (o := ⟨some 8, _, _, _, _, _⟩) rfl (by rfl) (fun KK hKK => ?_)) (allF_cons (OneF.mk' (o := ⟨some 9, _, _, _, _, _⟩) rfl (by rfl) (fun KK hKK => ?_)) allF_nil)
          · go_simp
            (try gi_wp2_with fail)
            refine hKK _ _ (by first | (go_keep; done) | ((repeat' apply And.intro) <;> go_simp)) (fun hHeld => ?_)
            clear hKK KK
            try simp only [Act.put, List.setIfInBounds_toArray, List.set_cons_zero, List.set_cons_succ]
            refine wpAnyHF_ready (rs := [7]) (by kernel_rfl) (by simp) ?_
            refine allF_cons (OneF.mk' (o := ⟨some 9, _, _, _, _, _⟩) rfl (by rfl) (fun KK hKK => ?_)) allF_nil
            go_simp
            (try gi_wp2_with fail)
            refine hKK _ _ (by first | (go_keep; done) | ((repeat' apply And.intro) <;> go_simp)) (fun hHeld => ?_)
            clear hKK KK
            try simp only [Act.put, List.setIfInBounds_toArray, List.set_cons_zero, List.set_cons_succ]
            refine wpAnyHF_ready (rs := [8]) (by kernel_rfl) (by simp) ?_
            refine allF_cons (OneF.mk' (o := ⟨none, _, _, _, _, _⟩) rfl (by rfl) (fun KK hKK => ?_)) allF_nil
            go_simp
            (try gi_wp2_with fail)
            refine hKK _ _ (by first | (go_keep; done) | ((repeat' apply And.intro) <;> go_simp)) (fun hHeld => ?_)
            clear hKK KK
            try simp only [Act.put, List.setIfInBounds_toArray, List.set_cons_zero, List.set_cons_succ]
            refine wpAnyHF_ready (rs := [9]) (by kernel_rfl) (by simp) ?_
            refine allF_cons (OneF.mk' (o := ⟨none, _, _, _, _, _⟩) rfl (by rfl) (fun KK hKK => ?_)) allF_nil
            go_simp
            (try gi_wp2_with fail)
            refine hKK _ _ (by first | (go_keep; done) | ((repeat' apply And.intro) <;> go_simp)) (fun hHeld => ?_)
            clear hKK KK
            try simp only [Act.put, List.setIfInBounds_toArray, List.set_cons_zero, List.set_cons_succ]
            refine wpAnyHF_done (by kernel_rfl) (NoPanic.normal ?_) _
            refine ⟨rfl, _, _, rfl, ?_, ?_, ?_, ?_, ?_, ?_, ?_, ?_, ?_, ?_, ?_, ?_, ?_, ?_, ?_, ?_, ?_, ?_, (by repeat (first | with_reducible exact Below.refl _ _ | with_reducible assumption | with_reducible refine Below.setCell ?_ (by first | omega | (simp <;> omega)) _ | with_reducible refine balloc ?_ _ | with_reducible refine Below.drew ?_ | with_reducible refine bstep ?_ (by with_reducible assumption)))⟩
            all_goals first | (with_reducible assumption) | go_simp
          · go_simp
            (try gi_wp2_with fail)
            refine hKK _ _ (by first | (go_keep; done) | ((repeat' apply And.intro) <;> go_simp)) (fun hHeld => ?_)
            clear hKK KK
            try simp only [Act.put, List.setIfInBounds_toArray, List.set_cons_zero, List.set_cons_succ]
            refine wpAnyHF_ready (rs := [6]) (by kernel_rfl) (by simp) ?_
            refine allF_cons (OneF.mk' (o := ⟨some 8, _, _, _, _, _⟩) rfl (by rfl) (fun KK hKK => ?_)) allF_nil
            go_simp
            (try gi_wp2_with fail)
            refine hKK _ _ (by first | (go_keep; done) | ((repeat' apply And.intro) <;> go_simp)) (fun hHeld => ?_)
            clear hKK KK
            try simp only [Act.put, List.setIfInBounds_toArray, List.set_cons_zero, List.set_cons_succ]
            refine wpAnyHF_ready (rs := [8]) (by kernel_rfl) (by simp) ?_
            refine allF_cons (OneF.mk' (o := ⟨none, _, _, _, _, _⟩) rfl (by rfl) (fun KK hKK => ?_)) allF_nil
            go_simp
            (try gi_wp2_with fail)
            refine hKK _ _ (by first | (go_keep; done) | ((repeat' apply And.intro) <;> go_simp)) (fun hHeld => ?_)
            clear hKK KK
            try simp only [Act.put, List.setIfInBounds_toArray, List.set_cons_zero, List.set_cons_succ]
            refine wpAnyHF_ready (rs := [9]) (by kernel_rfl) (by simp) ?_
            refine allF_cons (OneF.mk' (o := ⟨none, _, _, _, _, _⟩) rfl (by rfl) (fun KK hKK => ?_)) allF_nil
            go_simp
            (try gi_wp2_with fail)
            refine hKK _ _ (by first | (go_keep; done) | ((repeat' apply And.intro) <;> go_simp)) (fun hHeld => ?_)
            clear hKK KK
            try simp only [Act.put, List.setIfInBounds_toArray, List.set_cons_zero, List.set_cons_succ]
            refine wpAnyHF_done (by kernel_rfl) (NoPanic.normal ?_) _
            refine ⟨rfl, _, _, rfl, ?_, ?_, ?_, ?_, ?_, ?_, ?_, ?_, ?_, ?_, ?_, ?_, ?_, ?_, ?_, ?_, ?_, ?_, (by repeat (first | with_reducible exact Below.refl _ _ | with_reducible assumption | with_reducible refine Below.setCell ?_ (by first | omega | (simp <;> omega)) _ | with_reducible refine balloc ?_ _ | with_reducible refine Below.drew ?_ | with_reducible refine bstep ?_ (by with_reducible assumption)))⟩
            all_goals first | (with_reducible assumption) | go_simp
        · go_simp
          (try gi_wp2_with fail)
          refine hKK _ _ (by first | (go_keep; done) | ((repeat' apply And.intro) <;> go_simp)) (fun hHeld => ?_)
          clear hKK KK
          try simp only [Act.put, List.setIfInBounds_toArray, List.set_cons_zero, List.set_cons_succ]
          refine wpAnyHF_ready (rs := [5, 7]) (by kernel_rfl) (by simp) ?_
          refine allF_cons (OneF.mk' (o := ⟨some 20, _, _, _, _, _⟩) rfl (by rfl) (fun KK hKK => ?_)) (allF_cons (OneF.mk' (o := ⟨some 9, _, _, _, _, _⟩) rfl (by rfl) (fun KK hKK => ?_)) allF_nil)
          · go_simp
            (try gi_wp2_with fail)
            refine ⟨trivial, ?_⟩
            (try refine ⟨(fun h => by cases h), ?_⟩)
            refine (CallsIn.inRound ll (callsIn_wide.2 (SB _ (by repeat (first | with_reducible exact Below.refl _ _ | with_reducible assumption | with_reducible refine Below.setCell ?_ (by first | omega | (simp <;> omega)) _ | with_reducible refine balloc ?_ _ | with_reducible refine Below.drew ?_ | with_reducible refine bstep ?_ (by with_reducible assumption)))))).mono ?_
            rintro e wt2 ⟨rfl, hb⟩
            replace ka0 := cell_later hb (cell_al _ ka0)
            replace kb0 := cell_later hb (cell_al _ kb0)
            replace kc0 := cell_later hb (cell_al _ kc0)
            replace kx0 := cell_later hb (cell_al _ kx0)
            replace kx1 := cell_later hb (cell_al _ kx1)
            replace jr0 := fro_later hb (cell_al _ kr0) (fro_al jr0)
            replace kr0 := cell_later hb (cell_al _ kr0)
            have km0 : wt2.cell? ⟨wt1.heap.size, 0, none⟩ = some (.int .i64 0) := cell_later hb (by go_simp)
            have jm0 : wt2.frozen? ⟨wt1.heap.size, 0, none⟩ = false := by rw [(bcell hb).2 _ _ (by first | omega | (simp <;> omega))]; go_simp
            have km1 : wt2.cell? ⟨wt1.heap.size, 1, none⟩ = some (.int .i64 0) := cell_later hb (by go_simp)
            have jm1 : wt2.frozen? ⟨wt1.heap.size, 1, none⟩ = false := by rw [(bcell hb).2 _ _ (by first | omega | (simp <;> omega))]; go_simp
            have km2 : wt2.cell? ⟨wt1.heap.size, 2, none⟩ = some (.int .i64 0) := cell_later hb (by go_simp)
            have jm2 : wt2.frozen? ⟨wt1.heap.size, 2, none⟩ = false := by rw [(bcell hb).2 _ _ (by first | omega | (simp <;> omega))]; go_simp
            have km3 : wt2.cell? ⟨wt1.heap.size, 3, none⟩ = some (.int .i64 0) := cell_later hb (by go_simp)
            have jm3 : wt2.frozen? ⟨wt1.heap.size, 3, none⟩ = false := by rw [(bcell hb).2 _ _ (by first | omega | (simp <;> omega))]; go_simp
            have km4 : wt2.cell? ⟨wt1.heap.size, 4, none⟩ = some (.int .i64 0) := cell_later hb (by go_simp)
            have jm4 : wt2.frozen? ⟨wt1.heap.size, 4, none⟩ = false := by rw [(bcell hb).2 _ _ (by first | omega | (simp <;> omega))]; go_simp
            have km5 : wt2.cell? ⟨wt1.heap.size, 5, none⟩ = some (.int .i64 0) := cell_later hb (by go_simp)
            have jm5 : wt2.frozen? ⟨wt1.heap.size, 5, none⟩ = false := by rw [(bcell hb).2 _ _ (by first | omega | (simp <;> omega))]; go_simp
            replace za : w.heap.size < wt2.heap.size := World.block_lt_of_cell? _ _ ka0
            have za_wt2 := za
            replace zb : w.heap.size + 1 < wt2.heap.size := World.block_lt_of_cell? _ _ kb0
            have zb_wt2 := zb
            replace zc : w.heap.size + 1 + 1 < wt2.heap.size := World.block_lt_of_cell? _ _ kc0
            have zc_wt2 := zc
            replace zx : Bx < wt2.heap.size := World.block_lt_of_cell? _ _ kx0
            have zx_wt2 := zx
            replace zr : w.heap.size + 1 + 1 + 1 < wt2.heap.size := World.block_lt_of_cell? _ _ kr0
            have zr_wt2 := zr
            have zm : wt1.heap.size < wt2.heap.size := World.block_lt_of_cell? _ _ km0
            have zm_wt2 := zm
            replace hb0 : Below W.heap.size W wt2 := (by repeat (first | with_reducible exact Below.refl _ _ | with_reducible assumption | with_reducible refine Below.setCell ?_ (by first | omega | (simp <;> omega)) _ | with_reducible refine balloc ?_ _ | with_reducible refine Below.drew ?_ | with_reducible refine bstep ?_ (by with_reducible assumption)))
            have hs_wt2 := hb.size; (try simp only [World.size_alloc, World.size_setCell] at hs_wt2)
            clear hb
            (try gi_wp2_with fail)
            refine hKK _ _ (by first | (go_keep; done) | ((repeat' apply And.intro) <;> go_simp)) (fun hHeld => ?_)
            clear hKK KK
            try simp only [Act.put, List.setIfInBounds_toArray, List.set_cons_zero, List.set_cons_succ]
            refine wpAnyHF_ready (rs := [7]) (by kernel_rfl) (by simp) ?_
            refine allF_cons (OneF.mk' (o := ⟨some 9, _, _, _, _, _⟩) rfl (by rfl) (fun KK hKK => ?_)) allF_nil
            go_simp
            (try gi_wp2_with fail)
            refine hKK _ _ (by first | (go_keep; done) | ((repeat' apply And.intro) <;> go_simp)) (fun hHeld => ?_)
            clear hKK KK
            try simp only [Act.put, List.setIfInBounds_toArray, List.set_cons_zero, List.set_cons_succ]
            refine wpAnyHF_ready (rs := [8]) (by kernel_rfl) (by simp) ?_
            refine allF_cons (OneF.mk' (o := ⟨none, _, _, _, _, _⟩) rfl (by rfl) (fun KK hKK => ?_)) allF_nil
            go_simp
            (try gi_wp2_with fail)
            refine hKK _ _ (by first | (go_keep; done) | ((repeat' apply And.intro) <;> go_simp)) (fun hHeld => ?_)
            clear hKK KK
            try simp only [Act.put, List.setIfInBounds_toArray, List.set_cons_zero, List.set_cons_succ]
            refine wpAnyHF_ready (rs := [9]) (by kernel_rfl) (by simp) ?_
            refine allF_cons (OneF.mk' (o := ⟨none, _, _, _, _, _⟩) rfl (by rfl) (fun KK hKK => ?_)) allF_nil
            go_simp
            (try gi_wp2_with fail)
            refine hKK _ _ (by first | (go_keep; done) | ((repeat' apply And.intro) <;> go_simp)) (fun hHeld => ?_)
            clear hKK KK
            try simp only [Act.put, List.setIfInBounds_toArray, List.set_cons_zero, List.set_cons_succ]
            refine wpAnyHF_done (by kernel_rfl) (NoPanic.normal ?_) _
            refine ⟨rfl, _, _, rfl, ?_, ?_, ?_, ?_, ?_, ?_, ?_, ?_, ?_, ?_, ?_, ?_, ?_, ?_, ?_, ?_, ?_, ?_, (by repeat (first | with_reducible exact Below.refl _ _ | with_reducible assumption | with_reducible refine Below.setCell ?_ (by first | omega | (simp <;> omega)) _ | with_reducible refine balloc ?_ _ | with_reducible refine Below.drew ?_ | with_reducible refine bstep ?_ (by with_reducible assumption)))⟩
            all_goals first | (with_reducible assumption) | go_simp
          · go_simp
            (try gi_wp2_with fail)
            refine hKK _ _ (by first | (go_keep; done) | ((repeat' apply And.intro) <;> go_simp)) (fun hHeld => ?_)
            clear hKK KK
            try simp only [Act.put, List.setIfInBounds_toArray, List.set_cons_zero, List.set_cons_succ]
            refine wpAnyHF_ready (rs := [5]) (by kernel_rfl) (by simp) ?_
            refine allF_cons (OneF.mk' (o := ⟨some 20, _, _, _, _, _⟩) rfl (by rfl) (fun KK hKK => ?_)) allF_nil
            go_simp
            (try gi_wp2_with fail)
            refine ⟨trivial, ?_⟩
            (try refine ⟨(fun h => by cases h), ?_⟩)
            refine (CallsIn.inRound ll (callsIn_wide.2 (SB _ (by repeat (first | with_reducible exact Below.refl _ _ | with_reducible assumption | with_reducible refine Below.setCell ?_ (by first | omega | (simp <;> omega)) _ | with_reducible refine balloc ?_ _ | with_reducible refine Below.drew ?_ | with_reducible refine bstep ?_ (by with_reducible assumption)))))).mono ?_
            rintro e wt2 ⟨rfl, hb⟩
            replace ka0 := cell_later hb (cell_al _ (cell_al _ ka0))
            replace kb0 := cell_later hb (cell_al _ (cell_al _ kb0))
            replace kc0 := cell_later hb (cell_al _ (cell_al _ kc0))
            replace kx0 := cell_later hb (cell_al _ (cell_al _ kx0))
            replace kx1 := cell_later hb (cell_al _ (cell_al _ kx1))
            replace jr0 := fro_later hb (cell_al _ (cell_al _ kr0)) (fro_al (fro_al jr0))
            replace kr0 := cell_later hb (cell_al _ (cell_al _ kr0))
            have km0 : wt2.cell? ⟨wt1.heap.size, 0, none⟩ = some (.int .i64 0) := cell_later hb (by go_simp)
            have jm0 : wt2.frozen? ⟨wt1.heap.size, 0, none⟩ = false := by rw [(bcell hb).2 _ _ (by first | omega | (simp <;> omega))]; go_simp
            have km1 : wt2.cell? ⟨wt1.heap.size, 1, none⟩ = some (.int .i64 0) := cell_later hb (by go_simp)
            have jm1 : wt2.frozen? ⟨wt1.heap.size, 1, none⟩ = false := by rw [(bcell hb).2 _ _ (by first | omega | (simp <;> omega))]; go_simp
            have km2 : wt2.cell? ⟨wt1.heap.size, 2, none⟩ = some (.int .i64 0) := cell_later hb (by go_simp)
            have jm2 : wt2.frozen? ⟨wt1.heap.size, 2, none⟩ = false := by rw [(bcell hb).2 _ _ (by first | omega | (simp <;> omega))]; go_simp
            have km3 : wt2.cell? ⟨wt1.heap.size, 3, none⟩ = some (.int .i64 0) := cell_later hb (by go_simp)
            have jm3 : wt2.frozen? ⟨wt1.heap.size, 3, none⟩ = false := by rw [(bcell hb).2 _ _ (by first | omega | (simp <;> omega))]; go_simp
            have km4 : wt2.cell? ⟨wt1.heap.size, 4, none⟩ = some (.int .i64 0) := cell_later hb (by go_simp)
            have jm4 : wt2.frozen? ⟨wt1.heap.size, 4, none⟩ = false := by rw [(bcell hb).2 _ _ (by first | omega | (simp <;> omega))]; go_simp
            have km5 : wt2.cell? ⟨wt1.heap.size, 5, none⟩ = some (.int .i64 0) := cell_later hb (by go_simp)
            have jm5 : wt2.frozen? ⟨wt1.heap.size, 5, none⟩ = false := by rw [(bcell hb).2 _ _ (by first | omega | (simp <;> omega))]; go_simp
            have ki0 : wt2.cell? ⟨wt1.heap.size + 1, 0, none⟩ = some (.int .i64 0) := cell_later hb (by go_simp)
            have ji0 : wt2.frozen? ⟨wt1.heap.size + 1, 0, none⟩ = false := by rw [(bcell hb).2 _ _ (by first | omega | (simp <;> omega))]; go_simp
            have ki1 : wt2.cell? ⟨wt1.heap.size + 1, 1, none⟩ = some (.int .i64 0) := cell_later hb (by go_simp)
            have ji1 : wt2.frozen? ⟨wt1.heap.size + 1, 1, none⟩ = false := by rw [(bcell hb).2 _ _ (by first | omega | (simp <;> omega))]; go_simp
            have ki2 : wt2.cell? ⟨wt1.heap.size + 1, 2, none⟩ = some (.int .i64 0) := cell_later hb (by go_simp)
            have ji2 : wt2.frozen? ⟨wt1.heap.size + 1, 2, none⟩ = false := by rw [(bcell hb).2 _ _ (by first | omega | (simp <;> omega))]; go_simp
            have ki3 : wt2.cell? ⟨wt1.heap.size + 1, 3, none⟩ = some (.int .i64 0) := cell_later hb (by go_simp)
            have ji3 : wt2.frozen? ⟨wt1.heap.size + 1, 3, none⟩ = false := by rw [(bcell hb).2 _ _ (by first | omega | (simp <;> omega))]; go_simp
            have ki4 : wt2.cell? ⟨wt1.heap.size + 1, 4, none⟩ = some (.int .i64 0) := cell_later hb (by go_simp)
            have ji4 : wt2.frozen? ⟨wt1.heap.size + 1, 4, none⟩ = false := by rw [(bcell hb).2 _ _ (by first | omega | (simp <;> omega))]; go_simp
            have ki5 : wt2.cell? ⟨wt1.heap.size + 1, 5, none⟩ = some (.int .i64 0) := cell_later hb (by go_simp)
            have ji5 : wt2.frozen? ⟨wt1.heap.size + 1, 5, none⟩ = false := by rw [(bcell hb).2 _ _ (by first | omega | (simp <;> omega))]; go_simp
            replace za : w.heap.size < wt2.heap.size := World.block_lt_of_cell? _ _ ka0
            have za_wt2 := za
            replace zb : w.heap.size + 1 < wt2.heap.size := World.block_lt_of_cell? _ _ kb0
            have zb_wt2 := zb
            replace zc : w.heap.size + 1 + 1 < wt2.heap.size := World.block_lt_of_cell? _ _ kc0
            have zc_wt2 := zc
            replace zx : Bx < wt2.heap.size := World.block_lt_of_cell? _ _ kx0
            have zx_wt2 := zx
            replace zr : w.heap.size + 1 + 1 + 1 < wt2.heap.size := World.block_lt_of_cell? _ _ kr0
            have zr_wt2 := zr
            have zm : wt1.heap.size < wt2.heap.size := World.block_lt_of_cell? _ _ km0
            have zm_wt2 := zm
            have zi : wt1.heap.size + 1 < wt2.heap.size := World.block_lt_of_cell? _ _ ki0
            have zi_wt2 := zi
            replace hb0 : Below W.heap.size W wt2 := (by repeat (first | with_reducible exact Below.refl _ _ | with_reducible assumption | with_reducible refine Below.setCell ?_ (by first | omega | (simp <;> omega)) _ | with_reducible refine balloc ?_ _ | with_reducible refine Below.drew ?_ | with_reducible refine bstep ?_ (by with_reducible assumption)))
            have hs_wt2 := hb.size; (try simp only [World.size_alloc, World.size_setCell] at hs_wt2)
            clear hb
            (try gi_wp2_with fail)
            refine hKK _ _ (by first | (go_keep; done) | ((repeat' apply And.intro) <;> go_simp)) (fun hHeld => ?_)
            clear hKK KK
            try simp only [Act.put, List.setIfInBounds_toArray, List.set_cons_zero, List.set_cons_succ]
            refine wpAnyHF_ready (rs := [8]) (by kernel_rfl) (by simp) ?_
            refine allF_cons (OneF.mk' (o := ⟨none, _, _, _, _, _⟩) rfl (by rfl) (fun KK hKK => ?_)) allF_nil
            go_simp
            (try gi_wp2_with fail)
            refine hKK _ _ (by first | (go_keep; done) | ((repeat' apply And.intro) <;> go_simp)) (fun hHeld => ?_)
            clear hKK KK
            try simp only [Act.put, List.setIfInBounds_toArray, List.set_cons_zero, List.set_cons_succ]
            refine wpAnyHF_ready (rs := [9]) (by kernel_rfl) (by simp) ?_
            refine allF_cons (OneF.mk' (o := ⟨none, _, _, _, _, _⟩) rfl (by rfl) (fun KK hKK => ?_)) allF_nil
            go_simp
            (try gi_wp2_with fail)
            refine hKK _ _ (by first | (go_keep; done) | ((repeat' apply And.intro) <;> go_simp)) (fun hHeld => ?_)
            clear hKK KK
            try simp only [Act.put, List.setIfInBounds_toArray, List.set_cons_zero, List.set_cons_succ]
            refine wpAnyHF_done (by kernel_rfl) (NoPanic.normal ?_) _
            refine ⟨rfl, _, _, rfl, ?_, ?_, ?_, ?_, ?_, ?_, ?_, ?_, ?_, ?_, ?_, ?_, ?_, ?_, ?_, ?_, ?_, ?_, (by repeat (first | with_reducible exact Below.refl _ _ | with_reducible assumption | with_reducible refine Below.setCell ?_ (by first | omega | (simp <;> omega)) _ | with_reducible refine balloc ?_ _ | with_reducible refine Below.drew ?_ | with_reducible refine bstep ?_ (by with_reducible assumption)))⟩
            all_goals first | (with_reducible assumption) | go_simp
        · go_simp
          (try gi_wp2_with fail)
          refine hKK _ _ (by first | (go_keep; done) | ((repeat' apply And.intro) <;> go_simp)) (fun hHeld => ?_)
          clear hKK KK
          try simp only [Act.put, List.setIfInBounds_toArray, List.set_cons_zero, List.set_cons_succ]
          refine wpAnyHF_ready (rs := [5, 6]) (by kernel_rfl) (by simp) ?_
          refine allF_cons (OneF.mk' (o := ⟨some 20, _, _, _, _, _⟩) rfl (by rfl) (fun KK hKK => ?_)) (allF_cons (OneF.mk' (o := ⟨some 8, _, _, _, _, _⟩) rfl (by rfl) (fun KK hKK => ?_)) allF_nil)
          · go_simp
            (try gi_wp2_with fail)
            refine ⟨trivial, ?_⟩
            (try refine ⟨(fun h => by cases h), ?_⟩)
            refine (CallsIn.inRound ll (callsIn_wide.2 (SB _ (by repeat (first | with_reducible exact Below.refl _ _ | with_reducible assumption | with_reducible refine Below.setCell ?_ (by first | omega | (simp <;> omega)) _ | with_reducible refine balloc ?_ _ | with_reducible refine Below.drew ?_ | with_reducible refine bstep ?_ (by with_reducible assumption)))))).mono ?_
            rintro e wt2 ⟨rfl, hb⟩
            replace ka0 := cell_later hb (cell_al _ ka0)
            replace kb0 := cell_later hb (cell_al _ kb0)
            replace kc0 := cell_later hb (cell_al _ kc0)
            replace kx0 := cell_later hb (cell_al _ kx0)
            replace kx1 := cell_later hb (cell_al _ kx1)
            replace jr0 := fro_later hb (cell_al _ kr0) (fro_al jr0)
            replace kr0 := cell_later hb (cell_al _ kr0)
            have ki0 : wt2.cell? ⟨wt1.heap.size, 0, none⟩ = some (.int .i64 0) := cell_later hb (by go_simp)
            have ji0 : wt2.frozen? ⟨wt1.heap.size, 0, none⟩ = false := by rw [(bcell hb).2 _ _ (by first | omega | (simp <;> omega))]; go_simp
            have ki1 : wt2.cell? ⟨wt1.heap.size, 1, none⟩ = some (.int .i64 0) := cell_later hb (by go_simp)
            have ji1 : wt2.frozen? ⟨wt1.heap.size, 1, none⟩ = false := by rw [(bcell hb).2 _ _ (by first | omega | (simp <;> omega))]; go_simp
            have ki2 : wt2.cell? ⟨wt1.heap.size, 2, none⟩ = some (.int .i64 0) := cell_later hb (by go_simp)
            have ji2 : wt2.frozen? ⟨wt1.heap.size, 2, none⟩ = false := by rw [(bcell hb).2 _ _ (by first | omega | (simp <;> omega))]; go_simp
            have ki3 : wt2.cell? ⟨wt1.heap.size, 3, none⟩ = some (.int .i64 0) := cell_later hb (by go_simp)
            have ji3 : wt2.frozen? ⟨wt1.heap.size, 3, none⟩ = false := by rw [(bcell hb).2 _ _ (by first | omega | (simp <;> omega))]; go_simp
            have ki4 : wt2.cell? ⟨wt1.heap.size, 4, none⟩ = some (.int .i64 0) := cell_later hb (by go_simp)
            have ji4 : wt2.frozen? ⟨wt1.heap.size, 4, none⟩ = false := by rw [(bcell hb).2 _ _ (by first | omega | (simp <;> omega))]; go_simp
            have ki5 : wt2.cell? ⟨wt1.heap.size, 5, none⟩ = some (.int .i64 0) := cell_later hb (by go_simp)
            have ji5 : wt2.frozen? ⟨wt1.heap.size, 5, none⟩ = false := by rw [(bcell hb).2 _ _ (by first | omega | (simp <;> omega))]; go_simp
            replace za : w.heap.size < wt2.heap.size := World.block_lt_of_cell? _ _ ka0
            have za_wt2 := za
            replace zb : w.heap.size + 1 < wt2.heap.size := World.block_lt_of_cell? _ _ kb0
            have zb_wt2 := zb
            replace zc : w.heap.size + 1 + 1 < wt2.heap.size := World.block_lt_of_cell? _ _ kc0
            have zc_wt2 := zc
            replace zx : Bx < wt2.heap.size := World.block_lt_of_cell? _ _ kx0
            have zx_wt2 := zx
            replace zr : w.heap.size + 1 + 1 + 1 < wt2.heap.size := World.block_lt_of_cell? _ _ kr0
            have zr_wt2 := zr
            have zi : wt1.heap.size < wt2.heap.size := World.block_lt_of_cell? _ _ ki0
            have zi_wt2 := zi
            replace hb0 : Below W.heap.size W wt2 := (by repeat (first | with_reducible exact Below.refl _ _ | with_reducible assumption | with_reducible refine Below.setCell ?_ (by first | omega | (simp <;> omega)) _ | with_reducible refine balloc ?_ _ | with_reducible refine Below.drew ?_ | with_reducible refine bstep ?_ (by with_reducible assumption)))
            have hs_wt2 := hb.size; (try simp only [World.size_alloc, World.size_setCell] at hs_wt2)
            clear hb
            (try gi_wp2_with fail)
            refine hKK _ _ (by first | (go_keep; done) | ((repeat' apply And.intro) <;> go_simp)) (fun hHeld => ?_)
            clear hKK KK
            try simp only [Act.put, List.setIfInBounds_toArray, List.set_cons_zero, List.set_cons_succ]
            refine wpAnyHF_ready (rs := [6]) (by kernel_rfl) (by simp) ?_
            refine allF_cons (OneF.mk' (o := ⟨some 8, _, _, _, _, _⟩) rfl (by rfl) (fun KK hKK => ?_)) allF_nil
            go_simp
            (try gi_wp2_with fail)
            refine hKK _ _ (by first | (go_keep; done) | ((repeat' apply And.intro) <;> go_simp)) (fun hHeld => ?_)
            clear hKK KK
            try simp only [Act.put, List.setIfInBounds_toArray, List.set_cons_zero, List.set_cons_succ]
            refine wpAnyHF_ready (rs := [8]) (by kernel_rfl) (by simp) ?_
            refine allF_cons (OneF.mk' (o := ⟨none, _, _, _, _, _⟩) rfl (by rfl) (fun KK hKK => ?_)) allF_nil
            go_simp
            (try gi_wp2_with fail)
            refine hKK _ _ (by first | (go_keep; done) | ((repeat' apply And.intro) <;> go_simp)) (fun hHeld => ?_)
            clear hKK KK
            try simp only [Act.put, List.setIfInBounds_toArray, List.set_cons_zero, List.set_cons_succ]
            refine wpAnyHF_ready (rs := [9]) (by kernel_rfl) (by simp) ?_
            refine allF_cons (OneF.mk' (o := ⟨none, _, _, _, _, _⟩) rfl (by rfl) (fun KK hKK => ?_)) allF_nil
            go_simp
            (try gi_wp2_with fail)
            refine hKK _ _ (by first | (go_keep; done) | ((repeat' apply And.intro) <;> go_simp)) (fun hHeld => ?_)
            clear hKK KK
            try simp only [Act.put, List.setIfInBounds_toArray, List.set_cons_zero, List.set_cons_succ]
            refine wpAnyHF_done (by kernel_rfl) (NoPanic.normal ?_) _
            refine ⟨rfl, _, _, rfl, ?_, ?_, ?_, ?_, ?_, ?_, ?_, ?_, ?_, ?_, ?_, ?_, ?_, ?_, ?_, ?_, ?_, ?_, (by repeat (first | with_reducible exact Below.refl _ _ | with_reducible assumption | with_reducible refine Below.setCell ?_ (by first | omega | (simp <;> omega)) _ | with_reducible refine balloc ?_ _ | with_reducible refine Below.drew ?_ | with_reducible refine bstep ?_ (by with_reducible assumption)))⟩
            all_goals first | (with_reducible assumption) | go_simp
          · go_simp
            (try gi_wp2_with fail)
            refine hKK _ _ (by first | (go_keep; done) | ((repeat' apply And.intro) <;> go_simp)) (fun hHeld => ?_)
            clear hKK KK
            try simp only [Act.put, List.setIfInBounds_toArray, List.set_cons_zero, List.set_cons_succ]
            refine wpAnyHF_ready (rs := [5]) (by kernel_rfl) (by simp) ?_
            refine allF_cons (OneF.mk' (o := ⟨some 20, _, _, _, _, _⟩) rfl (by rfl) (fun KK hKK => ?_)) allF_nil
            go_simp
            (try gi_wp2_with fail)
            refine ⟨trivial, ?_⟩
            (try refine ⟨(fun h => by cases h), ?_⟩)
            refine (CallsIn.inRound ll (callsIn_wide.2 (SB _ (by repeat (first | with_reducible exact Below.refl _ _ | with_reducible assumption | with_reducible refine Below.setCell ?_ (by first | omega | (simp <;> omega)) _ | with_reducible refine balloc ?_ _ | with_reducible refine Below.drew ?_ | with_reducible refine bstep ?_ (by with_reducible assumption)))))).mono ?_
            rintro e wt2 ⟨rfl, hb⟩
            replace ka0 := cell_later hb (cell_al _ (cell_al _ ka0))
            replace kb0 := cell_later hb (cell_al _ (cell_al _ kb0))
            replace kc0 := cell_later hb (cell_al _ (cell_al _ kc0))
            replace kx0 := cell_later hb (cell_al _ (cell_al _ kx0))
            replace kx1 := cell_later hb (cell_al _ (cell_al _ kx1))
            replace jr0 := fro_later hb (cell_al _ (cell_al _ kr0)) (fro_al (fro_al jr0))
            replace kr0 := cell_later hb (cell_al _ (cell_al _ kr0))
            have ki0 : wt2.cell? ⟨wt1.heap.size, 0, none⟩ = some (.int .i64 0) := cell_later hb (by go_simp)
            have ji0 : wt2.frozen? ⟨wt1.heap.size, 0, none⟩ = false := by rw [(bcell hb).2 _ _ (by first | omega | (simp <;> omega))]; go_simp
            have ki1 : wt2.cell? ⟨wt1.heap.size, 1, none⟩ = some (.int .i64 0) := cell_later hb (by go_simp)
            have ji1 : wt2.frozen? ⟨wt1.heap.size, 1, none⟩ = false := by rw [(bcell hb).2 _ _ (by first | omega | (simp <;> omega))]; go_simp
            have ki2 : wt2.cell? ⟨wt1.heap.size, 2, none⟩ = some (.int .i64 0) := cell_later hb (by go_simp)
            have ji2 : wt2.frozen? ⟨wt1.heap.size, 2, none⟩ = false := by rw [(bcell hb).2 _ _ (by first | omega | (simp <;> omega))]; go_simp
            have ki3 : wt2.cell? ⟨wt1.heap.size, 3, none⟩ = some (.int .i64 0) := cell_later hb (by go_simp)
            have ji3 : wt2.frozen? ⟨wt1.heap.size, 3, none⟩ = false := by rw [(bcell hb).2 _ _ (by first | omega | (simp <;> omega))]; go_simp
            have ki4 : wt2.cell? ⟨wt1.heap.size, 4, none⟩ = some (.int .i64 0) := cell_later hb (by go_simp)
            have ji4 : wt2.frozen? ⟨wt1.heap.size, 4, none⟩ = false := by rw [(bcell hb).2 _ _ (by first | omega | (simp <;> omega))]; go_simp
            have ki5 : wt2.cell? ⟨wt1.heap.size, 5, none⟩ = some (.int .i64 0) := cell_later hb (by go_simp)
            have ji5 : wt2.frozen? ⟨wt1.heap.size, 5, none⟩ = false := by rw [(bcell hb).2 _ _ (by first | omega | (simp <;> omega))]; go_simp
            have km0 : wt2.cell? ⟨wt1.heap.size + 1, 0, none⟩ = some (.int .i64 0) := cell_later hb (by go_simp)
            have jm0 : wt2.frozen? ⟨wt1.heap.size + 1, 0, none⟩ = false := by rw [(bcell hb).2 _ _ (by first | omega | (simp <;> omega))]; go_simp
            have km1 : wt2.cell? ⟨wt1.heap.size + 1, 1, none⟩ = some (.int .i64 0) := cell_later hb (by go_simp)
            have jm1 : wt2.frozen? ⟨wt1.heap.size + 1, 1, none⟩ = false := by rw [(bcell hb).2 _ _ (by first | omega | (simp <;> omega))]; go_simp
            have km2 : wt2.cell? ⟨wt1.heap.size + 1, 2, none⟩ = some (.int .i64 0) := cell_later hb (by go_simp)
            have jm2 : wt2.frozen? ⟨wt1.heap.size + 1, 2, none⟩ = false := by rw [(bcell hb).2 _ _ (by first | omega | (simp <;> omega))]; go_simp
            have km3 : wt2.cell? ⟨wt1.heap.size + 1, 3, none⟩ = some (.int .i64 0) := cell_later hb (by go_simp)
            have jm3 : wt2.frozen? ⟨wt1.heap.size + 1, 3, none⟩ = false := by rw [(bcell hb).2 _ _ (by first | omega | (simp <;> omega))]; go_simp
            have km4 : wt2.cell? ⟨wt1.heap.size + 1, 4, none⟩ = some (.int .i64 0) := cell_later hb (by go_simp)
            have jm4 : wt2.frozen? ⟨wt1.heap.size + 1, 4, none⟩ = false := by rw [(bcell hb).2 _ _ (by first | omega | (simp <;> omega))]; go_simp
            have km5 : wt2.cell? ⟨wt1.heap.size + 1, 5, none⟩ = some (.int .i64 0) := cell_later hb (by go_simp)
            have jm5 : wt2.frozen? ⟨wt1.heap.size + 1, 5, none⟩ = false := by rw [(bcell hb).2 _ _ (by first | omega | (simp <;> omega))]; go_simp
            replace za : w.heap.size < wt2.heap.size := World.block_lt_of_cell? _ _ ka0
            have za_wt2 := za
            replace zb : w.heap.size + 1 < wt2.heap.size := World.block_lt_of_cell? _ _ kb0
            have zb_wt2 := zb
            replace zc : w.heap.size + 1 + 1 < wt2.heap.size := World.block_lt_of_cell? _ _ kc0
            have zc_wt2 := zc
            replace zx : Bx < wt2.heap.size := World.block_lt_of_cell? _ _ kx0
            have zx_wt2 := zx
            replace zr : w.heap.size + 1 + 1 + 1 < wt2.heap.size := World.block_lt_of_cell? _ _ kr0
            have zr_wt2 := zr
            have zi : wt1.heap.size < wt2.heap.size := World.block_lt_of_cell? _ _ ki0
            have zi_wt2 := zi
            have zm : wt1.heap.size + 1 < wt2.heap.size := World.block_lt_of_cell? _ _ km0
            have zm_wt2 := zm
            replace hb0 : Below W.heap.size W wt2 := (by repeat (first | with_reducible exact Below.refl _ _ | with_reducible assumption | with_reducible refine Below.setCell ?_ (by first | omega | (simp <;> omega)) _ | with_reducible refine balloc ?_ _ | with_reducible refine Below.drew ?_ | with_reducible refine bstep ?_ (by with_reducible assumption)))
            have hs_wt2 := hb.size; (try simp only [World.size_alloc, World.size_setCell] at hs_wt2)
            clear hb
            (try gi_wp2_with fail)
            refine hKK _ _ (by first | (go_keep; done) | ((repeat' apply And.intro) <;> go_simp)) (fun hHeld => ?_)
            clear hKK KK
            try simp only [Act.put, List.setIfInBounds_toArray, List.set_cons_zero, List.set_cons_succ]
            refine wpAnyHF_ready (rs := [8]) (by kernel_rfl) (by simp) ?_
            refine allF_cons (OneF.mk' (o := ⟨none, _, _, _, _, _⟩) rfl (by rfl) (fun KK hKK => ?_)) allF_nil
            go_simp
            (try gi_wp2_with fail)
            refine hKK _ _ (by first | (go_keep; done) | ((repeat' apply And.intro) <;> go_simp)) (fun hHeld => ?_)
            clear hKK KK
            try simp only [Act.put, List.setIfInBounds_toArray, List.set_cons_zero, List.set_cons_succ]
            refine wpAnyHF_ready (rs := [9]) (by kernel_rfl) (by simp) ?_
            refine allF_cons (OneF.mk' (o := ⟨none, _, _, _, _, _⟩) rfl (by rfl) (fun KK hKK => ?_)) allF_nil
            go_simp
            (try gi_wp2_with fail)
            refine hKK _ _ (by first | (go_keep; done) | ((repeat' apply And.intro) <;> go_simp)) (fun hHeld => ?_)
            clear hKK KK
            try simp only [Act.put, List.setIfInBounds_toArray, List.set_cons_zero, List.set_cons_succ]
            refine wpAnyHF_done (by kernel_rfl) (NoPanic.normal ?_) _
            refine ⟨rfl, _, _, rfl, ?_, ?_, ?_, ?_, ?_, ?_, ?_, ?_, ?_, ?_, ?_, ?_, ?_, ?_, ?_, ?_, ?_, ?_, (by repeat (first | with_reducible exact Below.refl _ _ | with_reducible assumption | with_reducible refine Below.setCell ?_ (by first | omega | (simp <;> omega)) _ | with_reducible refine balloc ?_ _ | with_reducible refine Below.drew ?_ | with_reducible refine bstep ?_ (by with_reducible assumption)))⟩
            all_goals first | (with_reducible assumption) | go_simp
      · go_simp
        (try gi_wp2_with fail)
        refine hKK _ _ (by first | (go_keep; done) | ((repeat' apply And.intro) <;> go_simp)) (fun hHeld => ?_)
        clear hKK KK
        try simp only [Act.put, List.setIfInBounds_toArray, List.set_cons_zero, List.set_cons_succ]
        refine wpAnyHF_ready (rs := [2, 7]) (by kernel_rfl) (by simp) ?_
        refine allF_cons (OneF.mk' (o := ⟨some 17, _, _, _, _, _⟩) rfl (by rfl) (fun KK hKK => ?_)) (allF_cons (OneF.mk' (o := ⟨some 9, _, _, _, _, _⟩) rfl (by rfl) (fun KK hKK => ?_)) allF_nil)
        · go_simp
          (try gi_wp2_with fail)
          refine ⟨trivial, ?_⟩
          (try refine ⟨(fun h => by cases h), ?_⟩)
          refine (CallsIn.inRound ll (callsIn_wide.2 (SA _ (by repeat (first | with_reducible exact Below.refl _ _ | with_reducible assumption | with_reducible refine Below.setCell ?_ (by first | omega | (simp <;> omega)) _ | with_reducible refine balloc ?_ _ | with_reducible refine Below.drew ?_ | with_reducible refine bstep ?_ (by with_reducible assumption)))))).mono ?_
          rintro e wt1 ⟨rfl, hb⟩
          replace ka0 := cell_later hb (cell_al _ ka0)
          replace kb0 := cell_later hb (cell_al _ kb0)
          replace kc0 := cell_later hb (cell_al _ kc0)
          replace kx0 := cell_later hb (cell_al _ kx0)
          replace kx1 := cell_later hb (cell_al _ kx1)
          replace jr0 := fro_later hb (cell_al _ kr0) (fro_al jr0)
          replace kr0 := cell_later hb (cell_al _ kr0)
          have km0 : wt1.cell? ⟨W.heap.size, 0, none⟩ = some (.int .i64 0) := cell_later hb (by go_simp)
          have jm0 : wt1.frozen? ⟨W.heap.size, 0, none⟩ = false := by rw [(bcell hb).2 _ _ (by first | omega | (simp <;> omega))]; go_simp
          have km1 : wt1.cell? ⟨W.heap.size, 1, none⟩ = some (.int .i64 0) := cell_later hb (by go_simp)
          have jm1 : wt1.frozen? ⟨W.heap.size, 1, none⟩ = false := by rw [(bcell hb).2 _ _ (by first | omega | (simp <;> omega))]; go_simp
          have km2 : wt1.cell? ⟨W.heap.size, 2, none⟩ = some (.int .i64 0) := cell_later hb (by go_simp)
          have jm2 : wt1.frozen? ⟨W.heap.size, 2, none⟩ = false := by rw [(bcell hb).2 _ _ (by first | omega | (simp <;> omega))]; go_simp
          have km3 : wt1.cell? ⟨W.heap.size, 3, none⟩ = some (.int .i64 0) := cell_later hb (by go_simp)
          have jm3 : wt1.frozen? ⟨W.heap.size, 3, none⟩ = false := by rw [(bcell hb).2 _ _ (by first | omega | (simp <;> omega))]; go_simp
          have km4 : wt1.cell? ⟨W.heap.size, 4, none⟩ = some (.int .i64 0) := cell_later hb (by go_simp)
          have jm4 : wt1.frozen? ⟨W.heap.size, 4, none⟩ = false := by rw [(bcell hb).2 _ _ (by first | omega | (simp <;> omega))]; go_simp
          have km5 : wt1.cell? ⟨W.heap.size, 5, none⟩ = some (.int .i64 0) := cell_later hb (by go_simp)
          have jm5 : wt1.frozen? ⟨W.heap.size, 5, none⟩ = false := by rw [(bcell hb).2 _ _ (by first | omega | (simp <;> omega))]; go_simp
          replace za : w.heap.size < wt1.heap.size := World.block_lt_of_cell? _ _ ka0
          have za_wt1 := za
          replace zb : w.heap.size + 1 < wt1.heap.size := World.block_lt_of_cell? _ _ kb0
          have zb_wt1 := zb
          replace zc : w.heap.size + 1 + 1 < wt1.heap.size := World.block_lt_of_cell? _ _ kc0
          have zc_wt1 := zc
          replace zx : Bx < wt1.heap.size := World.block_lt_of_cell? _ _ kx0
          have zx_wt1 := zx
          replace zr : w.heap.size + 1 + 1 + 1 < wt1.heap.size := World.block_lt_of_cell? _ _ kr0
          have zr_wt1 := zr
          have zm : W.heap.size < wt1.heap.size := World.block_lt_of_cell? _ _ km0
          have zm_wt1 := zm
          replace hb0 : Below W.heap.size W wt1 := (by repeat (first | with_reducible exact Below.refl _ _ | with_reducible assumption | with_reducible refine Below.setCell ?_ (by first | omega | (simp <;> omega)) _ | with_reducible refine balloc ?_ _ | with_reducible refine Below.drew ?_ | with_reducible refine bstep ?_ (by with_reducible assumption)))
          have hs_wt1 := hb.size; (try simp only [World.size_alloc, World.size_setCell] at hs_wt1)
          clear hb
          (try gi_wp2_with fail)
          refine hKK _ _ (by first | (go_keep; done) | ((repeat' apply And.intro) <;> go_simp)) (fun hHeld => ?_)
          clear hKK KK
          try simp only [Act.put, List.setIfInBounds_toArray, List.set_cons_zero, List.set_cons_succ]
          refine wpAnyHF_ready (rs := [5, 7]) (by kernel_rfl) (by simp) ?_
          refine allF_cons (OneF.mk' (o := ⟨some 20, _, _, _, _, _⟩) rfl (by rfl) (fun KK hKK => ?_)) (allF_cons (OneF.mk' (o := ⟨some 9, _, _, _, _, _⟩) rfl (by rfl) (fun KK hKK => ?_)) allF_nil)
          · go_simp
            (try gi_wp2_with fail)
            refine ⟨trivial, ?_⟩
            (try refine ⟨(fun h => by cases h), ?_⟩)
            refine (CallsIn.inRound ll (callsIn_wide.2 (SB _ (by repeat (first | with_reducible exact Below.refl _ _ | with_reducible assumption | with_reducible refine Below.setCell ?_ (by first | omega | (simp <;> omega)) _ | with_reducible refine balloc ?_ _ | with_reducible refine Below.drew ?_ | with_reducible refine bstep ?_ (by with_reducible assumption)))))).mono ?_
            rintro e wt2 ⟨rfl, hb⟩
            replace ka0 := cell_later hb ka0
            replace kb0 := cell_later hb kb0
            replace kc0 := cell_later hb kc0
            replace kx0 := cell_later hb kx0
            replace kx1 := cell_later hb kx1
            replace jr0 := fro_later hb kr0 jr0
            replace kr0 := cell_later hb kr0
            replace jm0 := fro_later hb km0 jm0
            replace km0 := cell_later hb km0
            replace jm1 := fro_later hb km1 jm1
            replace km1 := cell_later hb km1
            replace jm2 := fro_later hb km2 jm2
            replace km2 := cell_later hb km2
            replace jm3 := fro_later hb km3 jm3
            replace km3 := cell_later hb km3
            replace jm4 := fro_later hb km4 jm4
            replace km4 := cell_later hb km4
            replace jm5 := fro_later hb km5 jm5
            replace km5 := cell_later hb km5
            replace za : w.heap.size < wt2.heap.size := World.block_lt_of_cell? _ _ ka0
            have za_wt2 := za
            replace zb : w.heap.size + 1 < wt2.heap.size := World.block_lt_of_cell? _ _ kb0
            have zb_wt2 := zb
            replace zc : w.heap.size + 1 + 1 < wt2.heap.size := World.block_lt_of_cell? _ _ kc0
            have zc_wt2 := zc
            replace zx : Bx < wt2.heap.size := World.block_lt_of_cell? _ _ kx0
            have zx_wt2 := zx
            replace zr : w.heap.size + 1 + 1 + 1 < wt2.heap.size := World.block_lt_of_cell? _ _ kr0
            have zr_wt2 := zr
            replace zm : W.heap.size < wt2.heap.size := World.block_lt_of_cell? _ _ km0
            have zm_wt2 := zm
            replace hb0 : Below W.heap.size W wt2 := (by repeat (first | with_reducible exact Below.refl _ _ | with_reducible assumption | with_reducible refine Below.setCell ?_ (by first | omega | (simp <;> omega)) _ | with_reducible refine balloc ?_ _ | with_reducible refine Below.drew ?_ | with_reducible refine bstep ?_ (by with_reducible assumption)))
            have hs_wt2 : wt1.heap.size ≤ wt2.heap.size := hb.size
            clear hb
            (try gi_wp2_with fail)
            refine hKK _ _ (by first | (go_keep; done) | ((repeat' apply And.intro) <;> go_simp)) (fun hHeld => ?_)
            clear hKK KK
            try simp only [Act.put, List.setIfInBounds_toArray, List.set_cons_zero, List.set_cons_succ]
            refine wpAnyHF_ready (rs := [7]) (by kernel_rfl) (by simp) ?_
            refine allF_cons (OneF.mk' (o := ⟨some 9, _, _, _, _, _⟩) rfl (by rfl) (fun KK hKK => ?_)) allF_nil
            go_simp
            (try gi_wp2_with fail)
            refine hKK _ _ (by first | (go_keep; done) | ((repeat' apply And.intro) <;> go_simp)) (fun hHeld => ?_)
            clear hKK KK
            try simp only [Act.put, List.setIfInBounds_toArray, List.set_cons_zero, List.set_cons_succ]
            refine wpAnyHF_ready (rs := [8]) (by kernel_rfl) (by simp) ?_
            refine allF_cons (OneF.mk' (o := ⟨none, _, _, _, _, _⟩) rfl (by rfl) (fun KK hKK => ?_)) allF_nil
            go_simp
            (try gi_wp2_with fail)
            refine hKK _ _ (by first | (go_keep; done) | ((repeat' apply And.intro) <;> go_simp)) (fun hHeld => ?_)
            clear hKK KK
            try simp only [Act.put, List.setIfInBounds_toArray, List.set_cons_zero, List.set_cons_succ]
            refine wpAnyHF_ready (rs := [9]) (by kernel_rfl) (by simp) ?_
            refine allF_cons (OneF.mk' (o := ⟨none, _, _, _, _, _⟩) rfl (by rfl) (fun KK hKK => ?_)) allF_nil
            go_simp
            (try gi_wp2_with fail)
            refine hKK _ _ (by first | (go_keep; done) | ((repeat' apply And.intro) <;> go_simp)) (fun hHeld => ?_)
            clear hKK KK
            try simp only [Act.put, List.setIfInBounds_toArray, List.set_cons_zero, List.set_cons_succ]
            refine wpAnyHF_done (by kernel_rfl) (NoPanic.normal ?_) _
            refine ⟨rfl, _, _, rfl, ?_, ?_, ?_, ?_, ?_, ?_, ?_, ?_, ?_, ?_, ?_, ?_, ?_, ?_, ?_, ?_, ?_, ?_, (by repeat (first | with_reducible exact Below.refl _ _ | with_reducible assumption | with_reducible refine Below.setCell ?_ (by first | omega | (simp <;> omega)) _ | with_reducible refine balloc ?_ _ | with_reducible refine Below.drew ?_ | with_reducible refine bstep ?_ (by with_reducible assumption)))⟩
            all_goals first | (with_reducible assumption) | go_simp
          · go_simp
            (try gi_wp2_with fail)
            refine hKK _ _ (by first | (go_keep; done) | ((repeat' apply And.intro) <;> go_simp)) (fun hHeld => ?_)
            clear hKK KK
            try simp only [Act.put, List.setIfInBounds_toArray, List.set_cons_zero, List.set_cons_succ]
            refine wpAnyHF_ready (rs := [5]) (by kernel_rfl) (by simp) ?_
            refine allF_cons (OneF.mk' (o := ⟨some 20, _, _, _, _, _⟩) rfl (by rfl) (fun KK hKK => ?_)) allF_nil
            go_simp
            (try gi_wp2_with fail)
            refine ⟨trivial, ?_⟩
            (try refine ⟨(fun h => by cases h), ?_⟩)
            refine (CallsIn.inRound ll (callsIn_wide.2 (SB _ (by repeat (first | with_reducible exact Below.refl _ _ | with_reducible assumption | with_reducible refine Below.setCell ?_ (by first | omega | (simp <;> omega)) _ | with_reducible refine balloc ?_ _ | with_reducible refine Below.drew ?_ | with_reducible refine bstep ?_ (by with_reducible assumption)))))).mono ?_
            rintro e wt2 ⟨rfl, hb⟩
            replace ka0 := cell_later hb (cell_al _ ka0)
            replace kb0 := cell_later hb (cell_al _ kb0)
            replace kc0 := cell_later hb (cell_al _ kc0)
            replace kx0 := cell_later hb (cell_al _ kx0)
            replace kx1 := cell_later hb (cell_al _ kx1)
            replace jr0 := fro_later hb (cell_al _ kr0) (fro_al jr0)
            replace kr0 := cell_later hb (cell_al _ kr0)
            replace jm0 := fro_later hb (cell_al _ km0) (fro_al jm0)
            replace km0 := cell_later hb (cell_al _ km0)
            replace jm1 := fro_later hb (cell_al _ km1) (fro_al jm1)
            replace km1 := cell_later hb (cell_al _ km1)
            replace jm2 := fro_later hb (cell_al _ km2) (fro_al jm2)
            replace km2 := cell_later hb (cell_al _ km2)
            replace jm3 := fro_later hb (cell_al _ km3) (fro_al jm3)
            replace km3 := cell_later hb (cell_al _ km3)
            replace jm4 := fro_later hb (cell_al _ km4) (fro_al jm4)
            replace km4 := cell_later hb (cell_al _ km4)
            replace jm5 := fro_later hb (cell_al _ km5) (fro_al jm5)
            replace km5 := cell_later hb (cell_al _ km5)
            have ki0 : wt2.cell? ⟨wt1.heap.size, 0, none⟩ = some (.int .i64 0) := cell_later hb (by go_simp)
            have ji0 : wt2.frozen? ⟨wt1.heap.size, 0, none⟩ = false := by rw [(bcell hb).2 _ _ (by first | omega | (simp <;> omega))]; go_simp
            have ki1 : wt2.cell? ⟨wt1.heap.size, 1, none⟩ = some (.int .i64 0) := cell_later hb (by go_simp)
            have ji1 : wt2.frozen? ⟨wt1.heap.size, 1, none⟩ = false := by rw [(bcell hb).2 _ _ (by first | omega | (simp <;> omega))]; go_simp
            have ki2 : wt2.cell? ⟨wt1.heap.size, 2, none⟩ = some (.int .i64 0) := cell_later hb (by go_simp)
            have ji2 : wt2.frozen? ⟨wt1.heap.size, 2, none⟩ = false := by rw [(bcell hb).2 _ _ (by first | omega | (simp <;> omega))]; go_simp
            have ki3 : wt2.cell? ⟨wt1.heap.size, 3, none⟩ = some (.int .i64 0) := cell_later hb (by go_simp)
            have ji3 : wt2.frozen? ⟨wt1.heap.size, 3, none⟩ = false := by rw [(bcell hb).2 _ _ (by first | omega | (simp <;> omega))]; go_simp
            have ki4 : wt2.cell? ⟨wt1.heap.size, 4, none⟩ = some (.int .i64 0) := cell_later hb (by go_simp)
            have ji4 : wt2.frozen? ⟨wt1.heap.size, 4, none⟩ = false := by rw [(bcell hb).2 _ _ (by first | omega | (simp <;> omega))]; go_simp
            have ki5 : wt2.cell? ⟨wt1.heap.size, 5, none⟩ = some (.int .i64 0) := cell_later hb (by go_simp)
            have ji5 : wt2.frozen? ⟨wt1.heap.size, 5, none⟩ = false := by rw [(bcell hb).2 _ _ (by first | omega | (simp <;> omega))]; go_simp
            replace za : w.heap.size < wt2.heap.size := World.block_lt_of_cell? _ _ ka0
            have za_wt2 := za
            replace zb : w.heap.size + 1 < wt2.heap.size := World.block_lt_of_cell? _ _ kb0
            have zb_wt2 := zb
            replace zc : w.heap.size + 1 + 1 < wt2.heap.size := World.block_lt_of_cell? _ _ kc0
            have zc_wt2 := zc
            replace zx : Bx < wt2.heap.size := World.block_lt_of_cell? _ _ kx0
            have zx_wt2 := zx
            replace zr : w.heap.size + 1 + 1 + 1 < wt2.heap.size := World.block_lt_of_cell? _ _ kr0
            have zr_wt2 := zr
            replace zm : W.heap.size < wt2.heap.size := World.block_lt_of_cell? _ _ km0
            have zm_wt2 := zm
            have zi : wt1.heap.size < wt2.heap.size := World.block_lt_of_cell? _ _ ki0
            have zi_wt2 := zi
            replace hb0 : Below W.heap.size W wt2 := (by repeat (first | with_reducible exact Below.refl _ _ | with_reducible assumption | with_reducible refine Below.setCell ?_ (by first | omega | (simp <;> omega)) _ | with_reducible refine balloc ?_ _ | with_reducible refine Below.drew ?_ | with_reducible refine bstep ?_ (by with_reducible assumption)))
            have hs_wt2 := hb.size; (try simp only [World.size_alloc, World.size_setCell] at hs_wt2)
            clear hb
            (try gi_wp2_with fail)
            refine hKK _ _ (by first | (go_keep; done) | ((repeat' apply And.intro) <;> go_simp)) (fun hHeld => ?_)
            clear hKK KK
            try simp only [Act.put, List.setIfInBounds_toArray, List.set_cons_zero, List.set_cons_succ]
            refine wpAnyHF_ready (rs := [8]) (by kernel_rfl) (by simp) ?_
            refine allF_cons (OneF.mk' (o := ⟨none, _, _, _, _, _⟩) rfl (by rfl) (fun KK hKK => ?_)) allF_nil
            go_simp
            (try gi_wp2_with fail)
            refine hKK _ _ (by first | (go_keep; done) | ((repeat' apply And.intro) <;> go_simp)) (fun hHeld => ?_)
            clear hKK KK
            try simp only [Act.put, List.setIfInBounds_toArray, List.set_cons_zero, List.set_cons_succ]
            refine wpAnyHF_ready (rs := [9]) (by kernel_rfl) (by simp) ?_
            refine allF_cons (OneF.mk' (o := ⟨none, _, _, _, _, _⟩) rfl (by rfl) (fun KK hKK => ?_)) allF_nil
            go_simp
            (try gi_wp2_with fail)
            refine hKK _ _ (by first | (go_keep; done) | ((repeat' apply And.intro) <;> go_simp)) (fun hHeld => ?_)
            clear hKK KK
            try simp only [Act.put, List.setIfInBounds_toArray, List.set_cons_zero, List.set_cons_succ]
            refine wpAnyHF_done (by kernel_rfl) (NoPanic.normal ?_) _
            refine ⟨rfl, _, _, rfl, ?_, ?_, ?_, ?_, ?_, ?_, ?_, ?_, ?_, ?_, ?_, ?_, ?_, ?_, ?_, ?_, ?_, ?_, (by repeat (first | with_reducible exact Below.refl _ _ | with_reducible assumption | with_reducible refine Below.setCell ?_ (by first | omega | (simp <;> omega)) _ | with_reducible refine balloc ?_ _ | with_reducible refine Below.drew ?_ | with_reducible refine bstep ?_ (by with_reducible assumption)))⟩
            all_goals first | (with_reducible assumption) | go_simp
        · go_simp
          (try gi_wp2_with fail)
          refine hKK _ _ (by first | (go_keep; done) | ((repeat' apply And.intro) <;> go_simp)) (fun hHeld => ?_)
          clear hKK KK
          try simp only [Act.put, List.setIfInBounds_toArray, List.set_cons_zero, List.set_cons_succ]
          refine wpAnyHF_ready (rs := [2]) (by kernel_rfl) (by simp) ?_
          refine allF_cons (OneF.mk' (o := ⟨some 17, _, _, _, _, _⟩) rfl (by rfl) (fun KK hKK => ?_)) allF_nil
          go_simp
          (try gi_wp2_with fail)
          refine ⟨trivial, ?_⟩
          (try refine ⟨(fun h => by cases h), ?_⟩)
          refine (CallsIn.inRound ll (callsIn_wide.2 (SA _ (by repeat (first | with_reducible exact Below.refl _ _ | with_reducible assumption | with_reducible refine Below.setCell ?_ (by first | omega | (simp <;> omega)) _ | with_reducible refine balloc ?_ _ | with_reducible refine Below.drew ?_ | with_reducible refine bstep ?_ (by with_reducible assumption)))))).mono ?_
          rintro e wt1 ⟨rfl, hb⟩
          replace ka0 := cell_later hb (cell_al _ (cell_al _ ka0))
          replace kb0 := cell_later hb (cell_al _ (cell_al _ kb0))
          replace kc0 := cell_later hb (cell_al _ (cell_al _ kc0))
          replace kx0 := cell_later hb (cell_al _ (cell_al _ kx0))
          replace kx1 := cell_later hb (cell_al _ (cell_al _ kx1))
          replace jr0 := fro_later hb (cell_al _ (cell_al _ kr0)) (fro_al (fro_al jr0))
          replace kr0 := cell_later hb (cell_al _ (cell_al _ kr0))
          have km0 : wt1.cell? ⟨W.heap.size, 0, none⟩ = some (.int .i64 0) := cell_later hb (by go_simp)
          have jm0 : wt1.frozen? ⟨W.heap.size, 0, none⟩ = false := by rw [(bcell hb).2 _ _ (by first | omega | (simp <;> omega))]; go_simp
          have km1 : wt1.cell? ⟨W.heap.size, 1, none⟩ = some (.int .i64 0) := cell_later hb (by go_simp)
          have jm1 : wt1.frozen? ⟨W.heap.size, 1, none⟩ = false := by rw [(bcell hb).2 _ _ (by first | omega | (simp <;> omega))]; go_simp
          have km2 : wt1.cell? ⟨W.heap.size, 2, none⟩ = some (.int .i64 0) := cell_later hb (by go_simp)
          have jm2 : wt1.frozen? ⟨W.heap.size, 2, none⟩ = false := by rw [(bcell hb).2 _ _ (by first | omega | (simp <;> omega))]; go_simp
          have km3 : wt1.cell? ⟨W.heap.size, 3, none⟩ = some (.int .i64 0) := cell_later hb (by go_simp)
          have jm3 : wt1.frozen? ⟨W.heap.size, 3, none⟩ = false := by rw [(bcell hb).2 _ _ (by first | omega | (simp <;> omega))]; go_simp
          have km4 : wt1.cell? ⟨W.heap.size, 4, none⟩ = some (.int .i64 0) := cell_later hb (by go_simp)
          have jm4 : wt1.frozen? ⟨W.heap.size, 4, none⟩ = false := by rw [(bcell hb).2 _ _ (by first | omega | (simp <;> omega))]; go_simp
          have km5 : wt1.cell? ⟨W.heap.size, 5, none⟩ = some (.int .i64 0) := cell_later hb (by go_simp)
          have jm5 : wt1.frozen? ⟨W.heap.size, 5, none⟩ = false := by rw [(bcell hb).2 _ _ (by first | omega | (simp <;> omega))]; go_simp
          have ki0 : wt1.cell? ⟨W.heap.size + 1, 0, none⟩ = some (.int .i64 0) := cell_later hb (by go_simp)
          have ji0 : wt1.frozen? ⟨W.heap.size + 1, 0, none⟩ = false := by rw [(bcell hb).2 _ _ (by first | omega | (simp <;> omega))]; go_simp
          have ki1 : wt1.cell? ⟨W.heap.size + 1, 1, none⟩ = some (.int .i64 0) := cell_later hb (by go_simp)
          have ji1 : wt1.frozen? ⟨W.heap.size + 1, 1, none⟩ = false := by rw [(bcell hb).2 _ _ (by first | omega | (simp <;> omega))]; go_simp
          have ki2 : wt1.cell? ⟨W.heap.size + 1, 2, none⟩ = some (.int .i64 0) := cell_later hb (by go_simp)
          have ji2 : wt1.frozen? ⟨W.heap.size + 1, 2, none⟩ = false := by rw [(bcell hb).2 _ _ (by first | omega | (simp <;> omega))]; go_simp
          have ki3 : wt1.cell? ⟨W.heap.size + 1, 3, none⟩ = some (.int .i64 0) := cell_later hb (by go_simp)
          have ji3 : wt1.frozen? ⟨W.heap.size + 1, 3, none⟩ = false := by rw [(bcell hb).2 _ _ (by first | omega | (simp <;> omega))]; go_simp
          have ki4 : wt1.cell? ⟨W.heap.size + 1, 4, none⟩ = some (.int .i64 0) := cell_later hb (by go_simp)
          have ji4 : wt1.frozen? ⟨W.heap.size + 1, 4, none⟩ = false := by rw [(bcell hb).2 _ _ (by first | omega | (simp <;> omega))]; go_simp
          have ki5 : wt1.cell? ⟨W.heap.size + 1, 5, none⟩ = some (.int .i64 0) := cell_later hb (by go_simp)
          have ji5 : wt1.frozen? ⟨W.heap.size + 1, 5, none⟩ = false := by rw [(bcell hb).2 _ _ (by first | omega | (simp <;> omega))]; go_simp
          replace za : w.heap.size < wt1.heap.size := World.block_lt_of_cell? _ _ ka0
          have za_wt1 := za
          replace zb : w.heap.size + 1 < wt1.heap.size := World.block_lt_of_cell? _ _ kb0
          have zb_wt1 := zb
          replace zc : w.heap.size + 1 + 1 < wt1.heap.size := World.block_lt_of_cell? _ _ kc0
          have zc_wt1 := zc
          replace zx : Bx < wt1.heap.size := World.block_lt_of_cell? _ _ kx0
          have zx_wt1 := zx
          replace zr : w.heap.size + 1 + 1 + 1 < wt1.heap.size := World.block_lt_of_cell? _ _ kr0
          have zr_wt1 := zr
          have zm : W.heap.size < wt1.heap.size := World.block_lt_of_cell? _ _ km0
          have zm_wt1 := zm
          have zi : W.heap.size + 1 < wt1.heap.size := World.block_lt_of_cell? _ _ ki0
          have zi_wt1 := zi
          replace hb0 : Below W.heap.size W wt1 := (by repeat (first | with_reducible exact Below.refl _ _ | with_reducible assumption | with_reducible refine Below.setCell ?_ (by first | omega | (simp <;> omega)) _ | with_reducible refine balloc ?_ _ | with_reducible refine Below.drew ?_ | with_reducible refine bstep ?_ (by with_reducible assumption)))
          have hs_wt1 := hb.size; (try simp only [World.size_alloc, World.size_setCell] at hs_wt1)
          clear hb
          (try gi_wp2_with fail)
          refine hKK _ _ (by first | (go_keep; done) | ((repeat' apply And.intro) <;> go_simp)) (fun hHeld => ?_)
          clear hKK KK
          try simp only [Act.put, List.setIfInBounds_toArray, List.set_cons_zero, List.set_cons_succ]
          refine wpAnyHF_ready (rs := [5]) (by kernel_rfl) (by simp) ?_
          refine allF_cons (OneF.mk' (o := ⟨some 20, _, _, _, _, _⟩) rfl (by rfl) (fun KK hKK => ?_)) allF_nil
          go_simp
          (try gi_wp2_with fail)
          refine ⟨trivial, ?_⟩
          (try refine ⟨(fun h => by cases h), ?_⟩)
          refine (CallsIn.inRound ll (callsIn_wide.2 (SB _ (by repeat (first | with_reducible exact Below.refl _ _ | with_reducible assumption | with_reducible refine Below.setCell ?_ (by first | omega | (simp <;> omega)) _ | with_reducible refine balloc ?_ _ | with_reducible refine Below.drew ?_ | with_reducible refine bstep ?_ (by with_reducible assumption)))))).mono ?_
          rintro e wt2 ⟨rfl, hb⟩
          replace ka0 := cell_later hb ka0
          replace kb0 := cell_later hb kb0
          replace kc0 := cell_later hb kc0
          replace kx0 := cell_later hb kx0
          replace kx1 := cell_later hb kx1
          replace jr0 := fro_later hb kr0 jr0
          replace kr0 := cell_later hb kr0
          replace jm0 := fro_later hb km0 jm0
          replace km0 := cell_later hb km0
          replace jm1 := fro_later hb km1 jm1
          replace km1 := cell_later hb km1
          replace jm2 := fro_later hb km2 jm2
          replace km2 := cell_later hb km2
          replace jm3 := fro_later hb km3 jm3
          replace km3 := cell_later hb km3
          replace jm4 := fro_later hb km4 jm4
          replace km4 := cell_later hb km4
          replace jm5 := fro_later hb km5 jm5
          replace km5 := cell_later hb km5
          replace ji0 := fro_later hb ki0 ji0
          replace ki0 := cell_later hb ki0
          replace ji1 := fro_later hb ki1 ji1
          replace ki1 := cell_later hb ki1
          replace ji2 := fro_later hb ki2 ji2
          replace ki2 := cell_later hb ki2
          replace ji3 := fro_later hb ki3 ji3
          replace ki3 := cell_later hb ki3
          replace ji4 := fro_later hb ki4 ji4
          replace ki4 := cell_later hb ki4
          replace ji5 := fro_later hb ki5 ji5
          replace ki5 := cell_later hb ki5
          replace za : w.heap.size < wt2.heap.size := World.block_lt_of_cell? _ _ ka0
          have za_wt2 := za
          replace zb : w.heap.size + 1 < wt2.heap.size := World.block_lt_of_cell? _ _ kb0
          have zb_wt2 := zb
          replace zc : w.heap.size + 1 + 1 < wt2.heap.size := World.block_lt_of_cell? _ _ kc0
          have zc_wt2 := zc
          replace zx : Bx < wt2.heap.size := World.block_lt_of_cell? _ _ kx0
          have zx_wt2 := zx
          replace zr : w.heap.size + 1 + 1 + 1 < wt2.heap.size := World.block_lt_of_cell? _ _ kr0
          have zr_wt2 := zr
          replace zm : W.heap.size < wt2.heap.size := World.block_lt_of_cell? _ _ km0
          have zm_wt2 := zm
          replace zi : W.heap.size + 1 < wt2.heap.size := World.block_lt_of_cell? _ _ ki0
          have zi_wt2 := zi
          replace hb0 : Below W.heap.size W wt2 := (by repeat (first | with_reducible exact Below.refl _ _ | with_reducible assumption | with_reducible refine Below.setCell ?_ (by first | omega | (simp <;> omega)) _ | with_reducible refine balloc ?_ _ | with_reducible refine Below.drew ?_ | with_reducible refine bstep ?_ (by with_reducible assumption)))
          have hs_wt2 : wt1.heap.size ≤ wt2.heap.size := hb.size
          clear hb
          (try gi_wp2_with fail)
          refine hKK _ _ (by first | (go_keep; done) | ((repeat' apply And.intro) <;> go_simp)) (fun hHeld => ?_)
          clear hKK KK
          try simp only [Act.put, List.setIfInBounds_toArray, List.set_cons_zero, List.set_cons_succ]
          refine wpAnyHF_ready (rs := [8]) (by kernel_rfl) (by simp) ?_
          refine allF_cons (OneF.mk' (o := ⟨none, _, _, _, _, _⟩) rfl (by rfl) (fun KK hKK => ?_)) allF_nil
          go_simp
          (try gi_wp2_with fail)
          refine hKK _ _ (by first | (go_keep; done) | ((repeat' apply And.intro) <;> go_simp)) (fun hHeld => ?_)
          clear hKK KK
          try simp only [Act.put, List.setIfInBounds_toArray, List.set_cons_zero, List.set_cons_succ]
          refine wpAnyHF_ready (rs := [9]) (by kernel_rfl) (by simp) ?_
          refine allF_cons (OneF.mk' (o := ⟨none, _, _, _, _, _⟩) rfl (by rfl) (fun KK hKK => ?_)) allF_nil
          go_simp
          (try gi_wp2_with fail)
          refine hKK _ _ (by first | (go_keep; done) | ((repeat' apply And.intro) <;> go_simp)) (fun hHeld => ?_)
          clear hKK KK
          try simp only [Act.put, List.setIfInBounds_toArray, List.set_cons_zero, List.set_cons_succ]
          refine wpAnyHF_done (by kernel_rfl) (NoPanic.normal ?_) _
          refine ⟨rfl, _, _, rfl, ?_, ?_, ?_, ?_, ?_, ?_, ?_, ?_, ?_, ?_, ?_, ?_, ?_, ?_, ?_, ?_, ?_, ?_, (by repeat (first | with_reducible exact Below.refl _ _ | with_reducible assumption | with_reducible refine Below.setCell ?_ (by first | omega | (simp <;> omega)) _ | with_reducible refine balloc ?_ _ | with_reducible refine Below.drew ?_ | with_reducible refine bstep ?_ (by with_reducible assumption)))⟩
          all_goals first | (with_reducible assumption) | go_simp
      · go_simp
        (try gi_wp2_with fail)
        refine hKK _ _ (by first | (go_keep; done) | ((repeat' apply And.intro) <;> go_simp)) (fun hHeld => ?_)
        clear hKK KK
        try simp only [Act.put, List.setIfInBounds_toArray, List.set_cons_zero, List.set_cons_succ]
        refine wpAnyHF_ready (rs := [2, 6]) (by kernel_rfl) (by simp) ?_
        refine allF_cons (OneF.mk' (o := ⟨some 17, _, _, _, _, _⟩) rfl (by rfl) (fun KK hKK => ?_)) (allF_cons (OneF.mk' (o := ⟨some 8, _, _, _, _, _⟩) rfl (by rfl) (fun KK hKK => ?_)) allF_nil)
        · go_simp
          (try gi_wp2_with fail)
          refine ⟨trivial, ?_⟩
          (try refine ⟨(fun h => by cases h), ?_⟩)
          refine (CallsIn.inRound ll (callsIn_wide.2 (SA _ (by repeat (first | with_reducible exact Below.refl _ _ | with_reducible assumption | with_reducible refine Below.setCell ?_ (by first | omega | (simp <;> omega)) _ | with_reducible refine balloc ?_ _ | with_reducible refine Below.drew ?_ | with_reducible refine bstep ?_ (by with_reducible assumption)))))).mono ?_
          rintro e wt1 ⟨rfl, hb⟩
          replace ka0 := cell_later hb (cell_al _ ka0)
          replace kb0 := cell_later hb (cell_al _ kb0)
          replace kc0 := cell_later hb (cell_al _ kc0)
          replace kx0 := cell_later hb (cell_al _ kx0)
          replace kx1 := cell_later hb (cell_al _ kx1)
          replace jr0 := fro_later hb (cell_al _ kr0) (fro_al jr0)
          replace kr0 := cell_later hb (cell_al _ kr0)
          have ki0 : wt1.cell? ⟨W.heap.size, 0, none⟩ = some (.int .i64 0) := cell_later hb (by go_simp)
          have ji0 : wt1.frozen? ⟨W.heap.size, 0, none⟩ = false := by rw [(bcell hb).2 _ _ (by first | omega | (simp <;> omega))]; go_simp
          have ki1 : wt1.cell? ⟨W.heap.size, 1, none⟩ = some (.int .i64 0) := cell_later hb (by go_simp)
          have ji1 : wt1.frozen? ⟨W.heap.size, 1, none⟩ = false := by rw [(bcell hb).2 _ _ (by first | omega | (simp <;> omega))]; go_simp
          have ki2 : wt1.cell? ⟨W.heap.size, 2, none⟩ = some (.int .i64 0) := cell_later hb (by go_simp)
          have ji2 : wt1.frozen? ⟨W.heap.size, 2, none⟩ = false := by rw [(bcell hb).2 _ _ (by first | omega | (simp <;> omega))]; go_simp
          have ki3 : wt1.cell? ⟨W.heap.size, 3, none⟩ = some (.int .i64 0) := cell_later hb (by go_simp)
          have ji3 : wt1.frozen? ⟨W.heap.size, 3, none⟩ = false := by rw [(bcell hb).2 _ _ (by first | omega | (simp <;> omega))]; go_simp
          have ki4 : wt1.cell? ⟨W.heap.size, 4, none⟩ = some (.int .i64 0) := cell_later hb (by go_simp)
          have ji4 : wt1.frozen? ⟨W.heap.size, 4, none⟩ = false := by rw [(bcell hb).2 _ _ (by first | omega | (simp <;> omega))]; go_simp
          have ki5 : wt1.cell? ⟨W.heap.size, 5, none⟩ = some (.int .i64 0) := cell_later hb (by go_simp)
          have ji5 : wt1.frozen? ⟨W.heap.size, 5, none⟩ = false := by rw [(bcell hb).2 _ _ (by first | omega | (simp <;> omega))]; go_simp
          replace za : w.heap.size < wt1.heap.size := World.block_lt_of_cell? _ _ ka0
          have za_wt1 := za
          replace zb : w.heap.size + 1 < wt1.heap.size := World.block_lt_of_cell? _ _ kb0
          have zb_wt1 := zb
          replace zc : w.heap.size + 1 + 1 < wt1.heap.size := World.block_lt_of_cell? _ _ kc0
          have zc_wt1 := zc
          replace zx : Bx < wt1.heap.size := World.block_lt_of_cell? _ _ kx0
          have zx_wt1 := zx
          replace zr : w.heap.size + 1 + 1 + 1 < wt1.heap.size := World.block_lt_of_cell? _ _ kr0
          have zr_wt1 := zr
          have zi : W.heap.size < wt1.heap.size := World.block_lt_of_cell? _ _ ki0
          have zi_wt1 := zi
          replace hb0 : Below W.heap.size W wt1 := (by repeat (first | with_reducible exact Below.refl _ _ | with_reducible assumption | with_reducible refine Below.setCell ?_ (by first | omega | (simp <;> omega)) _ | with_reducible refine balloc ?_ _ | with_reducible refine Below.drew ?_ | with_reducible refine bstep ?_ (by with_reducible assumption)))
          have hs_wt1 := hb.size; (try simp only [World.size_alloc, World.size_setCell] at hs_wt1)
          clear hb
          (try gi_wp2_with fail)
          refine hKK _ _ (by first | (go_keep; done) | ((repeat' apply And.intro) <;> go_simp)) (fun hHeld => ?_)
          clear hKK KK
          try simp only [Act.put, List.setIfInBounds_toArray, List.set_cons_zero, List.set_cons_succ]
          refine wpAnyHF_ready (rs := [5, 6]) (by kernel_rfl) (by simp) ?_
          refine allF_cons (OneF.mk' (o := ⟨some 20, _, _, _, _, _⟩) rfl (by rfl) (fun KK hKK => ?_)) (allF_cons (OneF.mk' (o := ⟨some 8, _, _, _, _, _⟩) rfl (by rfl) (fun KK hKK => ?_)) allF_nil)
          · go_simp
            (try gi_wp2_with fail)
            refine ⟨trivial, ?_⟩
            (try refine ⟨(fun h => by cases h), ?_⟩)
            refine (CallsIn.inRound ll (callsIn_wide.2 (SB _ (by repeat (first | with_reducible exact Below.refl _ _ | with_reducible assumption | with_reducible refine Below.setCell ?_ (by first | omega | (simp <;> omega)) _ | with_reducible refine balloc ?_ _ | with_reducible refine Below.drew ?_ | with_reducible refine bstep ?_ (by with_reducible assumption)))))).mono ?_
            rintro e wt2 ⟨rfl, hb⟩
            replace ka0 := cell_later hb ka0
            replace kb0 := cell_later hb kb0
            replace kc0 := cell_later hb kc0
            replace kx0 := cell_later hb kx0
            replace kx1 := cell_later hb kx1
            replace jr0 := fro_later hb kr0 jr0
            replace kr0 := cell_later hb kr0
            replace ji0 := fro_later hb ki0 ji0
            replace ki0 := cell_later hb ki0
            replace ji1 := fro_later hb ki1 ji1
            replace ki1 := cell_later hb ki1
            replace ji2 := fro_later hb ki2 ji2
            replace ki2 := cell_later hb ki2
            replace ji3 := fro_later hb ki3 ji3
            replace ki3 := cell_later hb ki3
            replace ji4 := fro_later hb ki4 ji4
            replace ki4 := cell_later hb ki4
            replace ji5 := fro_later hb ki5 ji5
            replace ki5 := cell_later hb ki5
            replace za : w.heap.size < wt2.heap.size := World.block_lt_of_cell? _ _ ka0
            have za_wt2 := za
            replace zb : w.heap.size + 1 < wt2.heap.size := World.block_lt_of_cell? _ _ kb0
            have zb_wt2 := zb
            replace zc : w.heap.size + 1 + 1 < wt2.heap.size := World.block_lt_of_cell? _ _ kc0
            have zc_wt2 := zc
            replace zx : Bx < wt2.heap.size := World.block_lt_of_cell? _ _ kx0
            have zx_wt2 := zx
            replace zr : w.heap.size + 1 + 1 + 1 < wt2.heap.size := World.block_lt_of_cell? _ _ kr0
            have zr_wt2 := zr
            replace zi : W.heap.size < wt2.heap.size := World.block_lt_of_cell? _ _ ki0
            have zi_wt2 := zi
            replace hb0 : Below W.heap.size W wt2 := (by repeat (first | with_reducible exact Below.refl _ _ | with_reducible assumption | with_reducible refine Below.setCell ?_ (by first | omega | (simp <;> omega)) _ | with_reducible refine balloc ?_ _ | with_reducible refine Below.drew ?_ | with_reducible refine bstep ?_ (by with_reducible assumption)))
            have hs_wt2 : wt1.heap.size ≤ wt2.heap.size := hb.size
            clear hb
            (try gi_wp2_with fail)
            refine hKK _ _ (by first | (go_keep; done) | ((repeat' apply And.intro) <;> go_simp)) (fun hHeld => ?_)
            clear hKK KK
            try simp only [Act.put, List.setIfInBounds_toArray, List.set_cons_zero, List.set_cons_succ]
            refine wpAnyHF_ready (rs := [6]) (by kernel_rfl) (by simp) ?_
            refine allF_cons (OneF.mk' (o := ⟨some 8, _, _, _, _, _⟩) rfl (by rfl) (fun KK hKK => ?_)) allF_nil
            go_simp
            (try gi_wp2_with fail)
            refine hKK _ _ (by first | (go_keep; done) | ((repeat' apply And.intro) <;> go_simp)) (fun hHeld => ?_)
            clear hKK KK
            try simp only [Act.put, List.setIfInBounds_toArray, List.set_cons_zero, List.set_cons_succ]
            refine wpAnyHF_ready (rs := [8]) (by kernel_rfl) (by simp) ?_
            refine allF_cons (OneF.mk' (o := ⟨none, _, _, _, _, _⟩) rfl (by rfl) (fun KK hKK => ?_)) allF_nil
            go_simp
            (try gi_wp2_with fail)
            refine hKK _ _ (by first | (go_keep; done) | ((repeat' apply And.intro) <;> go_simp)) (fun hHeld => ?_)
            clear hKK KK
            try simp only [Act.put, List.setIfInBounds_toArray, List.set_cons_zero, List.set_cons_succ]
            refine wpAnyHF_ready (rs := [9]) (by kernel_rfl) (by simp) ?_
            refine allF_cons (OneF.mk' (o := ⟨none, _, _, _, _, _⟩) rfl (by rfl) (fun KK hKK => ?_)) allF_nil
            go_simp
            (try gi_wp2_with fail)
            refine hKK _ _ (by first | (go_keep; done) | ((repeat' apply And.intro) <;> go_simp)) (fun hHeld => ?_)
            clear hKK KK
            try simp only [Act.put, List.setIfInBounds_toArray, List.set_cons_zero, List.set_cons_succ]
            refine wpAnyHF_done (by kernel_rfl) (NoPanic.normal ?_) _
            refine ⟨rfl, _, _, rfl, ?_, ?_, ?_, ?_, ?_, ?_, ?_, ?_, ?_, ?_, ?_, ?_, ?_, ?_, ?_, ?_, ?_, ?_, (by repeat (first | with_reducible exact Below.refl _ _ | with_reducible assumption | with_reducible refine Below.setCell ?_ (by first | omega | (simp <;> omega)) _ | with_reducible refine balloc ?_ _ | with_reducible refine Below.drew ?_ | with_reducible refine bstep ?_ (by with_reducible assumption)))⟩
            all_goals first | (with_reducible assumption) | go_simp
          · go_simp
            (try gi_wp2_with fail)
            refine hKK _ _ (by first | (go_keep; done) | ((repeat' apply And.intro) <;> go_simp)) (fun hHeld => ?_)
            clear hKK KK
            try simp only [Act.put, List.setIfInBounds_toArray, List.set_cons_zero, List.set_cons_succ]
            refine wpAnyHF_ready (rs := [5]) (by kernel_rfl) (by simp) ?_
            refine allF_cons (OneF.mk' (o := ⟨some 20, _, _, _, _, _⟩) rfl (by rfl) (fun KK hKK => ?_)) allF_nil
            go_simp
            (try gi_wp2_with fail)
            refine ⟨trivial, ?_⟩
            (try refine ⟨(fun h => by cases h), ?_⟩)
            refine (CallsIn.inRound ll (callsIn_wide.2 (SB _ (by repeat (first | with_reducible exact Below.refl _ _ | with_reducible assumption | with_reducible refine Below.setCell ?_ (by first | omega | (simp <;> omega)) _ | with_reducible refine balloc ?_ _ | with_reducible refine Below.drew ?_ | with_reducible refine bstep ?_ (by with_reducible assumption)))))).mono ?_
            rintro e wt2 ⟨rfl, hb⟩
            replace ka0 := cell_later hb (cell_al _ ka0)
            replace kb0 := cell_later hb (cell_al _ kb0)
            replace kc0 := cell_later hb (cell_al _ kc0)
            replace kx0 := cell_later hb (cell_al _ kx0)
            replace kx1 := cell_later hb (cell_al _ kx1)
            replace jr0 := fro_later hb (cell_al _ kr0) (fro_al jr0)
            replace kr0 := cell_later hb (cell_al _ kr0)
            replace ji0 := fro_later hb (cell_al _ ki0) (fro_al ji0)
            replace ki0 := cell_later hb (cell_al _ ki0)
            replace ji1 := fro_later hb (cell_al _ ki1) (fro_al ji1)
            replace ki1 := cell_later hb (cell_al _ ki1)
            replace ji2 := fro_later hb (cell_al _ ki2) (fro_al ji2)
            replace ki2 := cell_later hb (cell_al _ ki2)
            replace ji3 := fro_later hb (cell_al _ ki3) (fro_al ji3)
            replace ki3 := cell_later hb (cell_al _ ki3)
            replace ji4 := fro_later hb (cell_al _ ki4) (fro_al ji4)
            replace ki4 := cell_later hb (cell_al _ ki4)
            replace ji5 := fro_later hb (cell_al _ ki5) (fro_al ji5)
            replace ki5 := cell_later hb (cell_al _ ki5)
            have km0 : wt2.cell? ⟨wt1.heap.size, 0, none⟩ = some (.int .i64 0) := cell_later hb (by go_simp)
            have jm0 : wt2.frozen? ⟨wt1.heap.size, 0, none⟩ = false := by rw [(bcell hb).2 _ _ (by first | omega | (simp <;> omega))]; go_simp
            have km1 : wt2.cell? ⟨wt1.heap.size, 1, none⟩ = some (.int .i64 0) := cell_later hb (by go_simp)
            have jm1 : wt2.frozen? ⟨wt1.heap.size, 1, none⟩ = false := by rw [(bcell hb).2 _ _ (by first | omega | (simp <;> omega))]; go_simp
            have km2 : wt2.cell? ⟨wt1.heap.size, 2, none⟩ = some (.int .i64 0) := cell_later hb (by go_simp)
            have jm2 : wt2.frozen? ⟨wt1.heap.size, 2, none⟩ = false := by rw [(bcell hb).2 _ _ (by first | omega | (simp <;> omega))]; go_simp
            have km3 : wt2.cell? ⟨wt1.heap.size, 3, none⟩ = some (.int .i64 0) := cell_later hb (by go_simp)
            have jm3 : wt2.frozen? ⟨wt1.heap.size, 3, none⟩ = false := by rw [(bcell hb).2 _ _ (by first | omega | (simp <;> omega))]; go_simp
            have km4 : wt2.cell? ⟨wt1.heap.size, 4, none⟩ = some (.int .i64 0) := cell_later hb (by go_simp)
            have jm4 : wt2.frozen? ⟨wt1.heap.size, 4, none⟩ = false := by rw [(bcell hb).2 _ _ (by first | omega | (simp <;> omega))]; go_simp
            have km5 : wt2.cell? ⟨wt1.heap.size, 5, none⟩ = some (.int .i64 0) := cell_later hb (by go_simp)
            have jm5 : wt2.frozen? ⟨wt1.heap.size, 5, none⟩ = false := by rw [(bcell hb).2 _ _ (by first | omega | (simp <;> omega))]; go_simp
            replace za : w.heap.size < wt2.heap.size := World.block_lt_of_cell? _ _ ka0
            have za_wt2 := za
            replace zb : w.heap.size + 1 < wt2.heap.size := World.block_lt_of_cell? _ _ kb0
            have zb_wt2 := zb
            replace zc : w.heap.size + 1 + 1 < wt2.heap.size := World.block_lt_of_cell? _ _ kc0
            have zc_wt2 := zc
            replace zx : Bx < wt2.heap.size := World.block_lt_of_cell? _ _ kx0
            have zx_wt2 := zx
            replace zr : w.heap.size + 1 + 1 + 1 < wt2.heap.size := World.block_lt_of_cell? _ _ kr0
            have zr_wt2 := zr
            replace zi : W.heap.size < wt2.heap.size := World.block_lt_of_cell? _ _ ki0
            have zi_wt2 := zi
            have zm : wt1.heap.size < wt2.heap.size := World.block_lt_of_cell? _ _ km0
            have zm_wt2 := zm
            replace hb0 : Below W.heap.size W wt2 := (by repeat (first | with_reducible exact Below.refl _ _ | with_reducible assumption | with_reducible refine Below.setCell ?_ (by first | omega | (simp <;> omega)) _ | with_reducible refine balloc ?_ _ | with_reducible refine Below.drew ?_ | with_reducible refine bstep ?_ (by with_reducible assumption)))
            have hs_wt2 := hb.size; (try simp only [World.size_alloc, World.size_setCell] at hs_wt2)
            clear hb
            (try gi_wp2_with fail)
            refine hKK _ _ (by first | (go_keep; done) | ((repeat' apply And.intro) <;> go_simp)) (fun hHeld => ?_)
            clear hKK KK
            try simp only [Act.put, List.setIfInBounds_toArray, List.set_cons_zero, List.set_cons_succ]
            refine wpAnyHF_ready (rs := [8]) (by kernel_rfl) (by simp) ?_
            refine allF_cons (OneF.mk' (o := ⟨none, _, _, _, _, _⟩) rfl (by rfl) (fun KK hKK => ?_)) allF_nil
            go_simp
            (try gi_wp2_with fail)
            refine hKK _ _ (by first | (go_keep; done) | ((repeat' apply And.intro) <;> go_simp)) (fun hHeld => ?_)
            clear hKK KK
            try simp only [Act.put, List.setIfInBounds_toArray, List.set_cons_zero, List.set_cons_succ]
            refine wpAnyHF_ready (rs := [9]) (by kernel_rfl) (by simp) ?_
            refine allF_cons (OneF.mk' (o := ⟨none, _, _, _, _, _⟩) rfl (by rfl) (fun KK hKK => ?_)) allF_nil
            go_simp
            (try gi_wp2_with fail)
            refine hKK _ _ (by first | (go_keep; done) | ((repeat' apply And.intro) <;> go_simp)) (fun hHeld => ?_)
            clear hKK KK
            try simp only [Act.put, List.setIfInBounds_toArray, List.set_cons_zero, List.set_cons_succ]
            refine wpAnyHF_done (by kernel_rfl) (NoPanic.normal ?_) _
            refine ⟨rfl, _, _, rfl, ?_, ?_, ?_, ?_, ?_, ?_, ?_, ?_, ?_, ?_, ?_, ?_, ?_, ?_, ?_, ?_, ?_, ?_, (by repeat (first | with_reducible exact Below.refl _ _ | with_reducible assumption | with_reducible refine Below.setCell ?_ (by first | omega | (simp <;> omega)) _ | with_reducible refine balloc ?_ _ | with_reducible refine Below.drew ?_ | with_reducible refine bstep ?_ (by with_reducible assumption)))⟩
            all_goals first | (with_reducible assumption) | go_simp
        · go_simp
          (try gi_wp2_with fail)
          refine hKK _ _ (by first | (go_keep; done) | ((repeat' apply And.intro) <;> go_simp)) (fun hHeld => ?_)
          clear hKK KK
          try simp only [Act.put, List.setIfInBounds_toArray, List.set_cons_zero, List.set_cons_succ]
          refine wpAnyHF_ready (rs := [2]) (by kernel_rfl) (by simp) ?_
          refine allF_cons (OneF.mk' (o := ⟨some 17, _, _, _, _, _⟩) rfl (by rfl) (fun KK hKK => ?_)) allF_nil
          go_simp
          (try gi_wp2_with fail)
          refine ⟨trivial, ?_⟩
          (try refine ⟨(fun h => by cases h), ?_⟩)
          refine (CallsIn.inRound ll (callsIn_wide.2 (SA _ (by repeat (first | with_reducible exact Below.refl _ _ | with_reducible assumption | with_reducible refine Below.setCell ?_ (by first | omega | (simp <;> omega)) _ | with_reducible refine balloc ?_ _ | with_reducible refine Below.drew ?_ | with_reducible refine bstep ?_ (by with_reducible assumption)))))).mono ?_
          rintro e wt1 ⟨rfl, hb⟩
          replace ka0 := cell_later hb (cell_al _ (cell_al _ ka0))
          replace kb0 := cell_later hb (cell_al _ (cell_al _ kb0))
          replace kc0 := cell_later hb (cell_al _ (cell_al _ kc0))
          replace kx0 := cell_later hb (cell_al _ (cell_al _ kx0))
          replace kx1 := cell_later hb (cell_al _ (cell_al _ kx1))
          replace jr0 := fro_later hb (cell_al _ (cell_al _ kr0)) (fro_al (fro_al jr0))
          replace kr0 := cell_later hb (cell_al _ (cell_al _ kr0))
          have ki0 : wt1.cell? ⟨W.heap.size, 0, none⟩ = some (.int .i64 0) := cell_later hb (by go_simp)
          have ji0 : wt1.frozen? ⟨W.heap.size, 0, none⟩ = false := by rw [(bcell hb).2 _ _ (by first | omega | (simp <;> omega))]; go_simp
          have ki1 : wt1.cell? ⟨W.heap.size, 1, none⟩ = some (.int .i64 0) := cell_later hb (by go_simp)
          have ji1 : wt1.frozen? ⟨W.heap.size, 1, none⟩ = false := by rw [(bcell hb).2 _ _ (by first | omega | (simp <;> omega))]; go_simp
          have ki2 : wt1.cell? ⟨W.heap.size, 2, none⟩ = some (.int .i64 0) := cell_later hb (by go_simp)
          have ji2 : wt1.frozen? ⟨W.heap.size, 2, none⟩ = false := by rw [(bcell hb).2 _ _ (by first | omega | (simp <;> omega))]; go_simp
          have ki3 : wt1.cell? ⟨W.heap.size, 3, none⟩ = some (.int .i64 0) := cell_later hb (by go_simp)
          have ji3 : wt1.frozen? ⟨W.heap.size, 3, none⟩ = false := by rw [(bcell hb).2 _ _ (by first | omega | (simp <;> omega))]; go_simp
          have ki4 : wt1.cell? ⟨W.heap.size, 4, none⟩ = some (.int .i64 0) := cell_later hb (by go_simp)
          have ji4 : wt1.frozen? ⟨W.heap.size, 4, none⟩ = false := by rw [(bcell hb).2 _ _ (by first | omega | (simp <;> omega))]; go_simp
          have ki5 : wt1.cell? ⟨W.heap.size, 5, none⟩ = some (.int .i64 0) := cell_later hb (by go_simp)
          have ji5 : wt1.frozen? ⟨W.heap.size, 5, none⟩ = false := by rw [(bcell hb).2 _ _ (by first | omega | (simp <;> omega))]; go_simp
          have km0 : wt1.cell? ⟨W.heap.size + 1, 0, none⟩ = some (.int .i64 0) := cell_later hb (by go_simp)
          have jm0 : wt1.frozen? ⟨W.heap.size + 1, 0, none⟩ = false := by rw [(bcell hb).2 _ _ (by first | omega | (simp <;> omega))]; go_simp
          have km1 : wt1.cell? ⟨W.heap.size + 1, 1, none⟩ = some (.int .i64 0) := cell_later hb (by go_simp)
          have jm1 : wt1.frozen? ⟨W.heap.size + 1, 1, none⟩ = false := by rw [(bcell hb).2 _ _ (by first | omega | (simp <;> omega))]; go_simp
          have km2 : wt1.cell? ⟨W.heap.size + 1, 2, none⟩ = some (.int .i64 0) := cell_later hb (by go_simp)
          have jm2 : wt1.frozen? ⟨W.heap.size + 1, 2, none⟩ = false := by rw [(bcell hb).2 _ _ (by first | omega | (simp <;> omega))]; go_simp
          have km3 : wt1.cell? ⟨W.heap.size + 1, 3, none⟩ = some (.int .i64 0) := cell_later hb (by go_simp)
          have jm3 : wt1.frozen? ⟨W.heap.size + 1, 3, none⟩ = false := by rw [(bcell hb).2 _ _ (by first | omega | (simp <;> omega))]; go_simp
          have km4 : wt1.cell? ⟨W.heap.size + 1, 4, none⟩ = some (.int .i64 0) := cell_later hb (by go_simp)
          have jm4 : wt1.frozen? ⟨W.heap.size + 1, 4, none⟩ = false := by rw [(bcell hb).2 _ _ (by first | omega | (simp <;> omega))]; go_simp
          have km5 : wt1.cell? ⟨W.heap.size + 1, 5, none⟩ = some (.int .i64 0) := cell_later hb (by go_simp)
          have jm5 : wt1.frozen? ⟨W.heap.size + 1, 5, none⟩ = false := by rw [(bcell hb).2 _ _ (by first | omega | (simp <;> omega))]; go_simp
          replace za : w.heap.size < wt1.heap.size := World.block_lt_of_cell? _ _ ka0
          have za_wt1 := za
          replace zb : w.heap.size + 1 < wt1.heap.size := World.block_lt_of_cell? _ _ kb0
          have zb_wt1 := zb
          replace zc : w.heap.size + 1 + 1 < wt1.heap.size := World.block_lt_of_cell? _ _ kc0
          have zc_wt1 := zc
          replace zx : Bx < wt1.heap.size := World.block_lt_of_cell? _ _ kx0
          have zx_wt1 := zx
          replace zr : w.heap.size + 1 + 1 + 1 < wt1.heap.size := World.block_lt_of_cell? _ _ kr0
          have zr_wt1 := zr
          have zi : W.heap.size < wt1.heap.size := World.block_lt_of_cell? _ _ ki0
          have zi_wt1 := zi
          have zm : W.heap.size + 1 < wt1.heap.size := World.block_lt_of_cell? _ _ km0
          have zm_wt1 := zm
          replace hb0 : Below W.heap.size W wt1 := (by repeat (first | with_reducible exact Below.refl _ _ | with_reducible assumption | with_reducible refine Below.setCell ?_ (by first | omega | (simp <;> omega)) _ | with_reducible refine balloc ?_ _ | with_reducible refine Below.drew ?_ | with_reducible refine bstep ?_ (by with_reducible assumption)))
          have hs_wt1 := hb.size; (try simp only [World.size_alloc, World.size_setCell] at hs_wt1)
          clear hb
          (try gi_wp2_with fail)
          refine hKK _ _ (by first | (go_keep; done) | ((repeat' apply And.intro) <;> go_simp)) (fun hHeld => ?_)
          clear hKK KK
          try simp only [Act.put, List.setIfInBounds_toArray, List.set_cons_zero, List.set_cons_succ]
          refine wpAnyHF_ready (rs := [5]) (by kernel_rfl) (by simp) ?_
          refine allF_cons (OneF.mk' (o := ⟨some 20, _, _, _, _, _⟩) rfl (by rfl) (fun KK hKK => ?_)) allF_nil
          go_simp
          (try gi_wp2_with fail)
          refine ⟨trivial, ?_⟩
          (try refine ⟨(fun h => by cases h), ?_⟩)
          refine (CallsIn.inRound ll (callsIn_wide.2 (SB _ (by repeat (first | with_reducible exact Below.refl _ _ | with_reducible assumption | with_reducible refine Below.setCell ?_ (by first | omega | (simp <;> omega)) _ | with_reducible refine balloc ?_ _ | with_reducible refine Below.drew ?_ | with_reducible refine bstep ?_ (by with_reducible assumption)))))).mono ?_
          rintro e wt2 ⟨rfl, hb⟩
          replace ka0 := cell_later hb ka0
          replace kb0 := cell_later hb kb0
          replace kc0 := cell_later hb kc0
          replace kx0 := cell_later hb kx0
          replace kx1 := cell_later hb kx1
          replace jr0 := fro_later hb kr0 jr0
          replace kr0 := cell_later hb kr0
          replace ji0 := fro_later hb ki0 ji0
          replace ki0 := cell_later hb ki0
          replace ji1 := fro_later hb ki1 ji1
          replace ki1 := cell_later hb ki1
          replace ji2 := fro_later hb ki2 ji2
          replace ki2 := cell_later hb ki2
          replace ji3 := fro_later hb ki3 ji3
          replace ki3 := cell_later hb ki3
          replace ji4 := fro_later hb ki4 ji4
          replace ki4 := cell_later hb ki4
          replace ji5 := fro_later hb ki5 ji5
          replace ki5 := cell_later hb ki5
          replace jm0 := fro_later hb km0 jm0
          replace km0 := cell_later hb km0
          replace jm1 := fro_later hb km1 jm1
          replace km1 := cell_later hb km1
          replace jm2 := fro_later hb km2 jm2
          replace km2 := cell_later hb km2
          replace jm3 := fro_later hb km3 jm3
          replace km3 := cell_later hb km3
          replace jm4 := fro_later hb km4 jm4
          replace km4 := cell_later hb km4
          replace jm5 := fro_later hb km5 jm5
          replace km5 := cell_later hb km5
          replace za : w.heap.size < wt2.heap.size := World.block_lt_of_cell? _ _ ka0
          have za_wt2 := za
          replace zb : w.heap.size + 1 < wt2.heap.size := World.block_lt_of_cell? _ _ kb0
          have zb_wt2 := zb
          replace zc : w.heap.size + 1 + 1 < wt2.heap.size := World.block_lt_of_cell? _ _ kc0
          have zc_wt2 := zc
          replace zx : Bx < wt2.heap.size := World.block_lt_of_cell? _ _ kx0
          have zx_wt2 := zx
          replace zr : w.heap.size + 1 + 1 + 1 < wt2.heap.size := World.block_lt_of_cell? _ _ kr0
          have zr_wt2 := zr
          replace zi : W.heap.size < wt2.heap.size := World.block_lt_of_cell? _ _ ki0
          have zi_wt2 := zi
          replace zm : W.heap.size + 1 < wt2.heap.size := World.block_lt_of_cell? _ _ km0
          have zm_wt2 := zm
          replace hb0 : Below W.heap.size W wt2 := (by repeat (first | with_reducible exact Below.refl _ _ | with_reducible assumption | with_reducible refine Below.setCell ?_ (by first | omega | (simp <;> omega)) _ | with_reducible refine balloc ?_ _ | with_reducible refine Below.drew ?_ | with_reducible refine bstep ?_ (by with_reducible assumption)))
          have hs_wt2 : wt1.heap.size ≤ wt2.heap.size := hb.size
          clear hb
          (try gi_wp2_with fail)
          refine hKK _ _ (by first | (go_keep; done) | ((repeat' apply And.intro) <;> go_simp)) (fun hHeld => ?_)
          clear hKK KK
          try simp only [Act.put, List.setIfInBounds_toArray, List.set_cons_zero, List.set_cons_succ]
          refine wpAnyHF_ready (rs := [8]) (by kernel_rfl) (by simp) ?_
          refine allF_cons (OneF.mk' (o := ⟨none, _, _, _, _, _⟩) rfl (by rfl) (fun KK hKK => ?_)) allF_nil
          go_simp
          (try gi_wp2_with fail)
          refine hKK _ _ (by first | (go_keep; done) | ((repeat' apply And.intro) <;> go_simp)) (fun hHeld => ?_)
          clear hKK KK
          try simp only [Act.put, List.setIfInBounds_toArray, List.set_cons_zero, List.set_cons_succ]
          refine wpAnyHF_ready (rs := [9]) (by kernel_rfl) (by simp) ?_
          refine allF_cons (OneF.mk' (o := ⟨none, _, _, _, _, _⟩) rfl (by rfl) (fun KK hKK => ?_)) allF_nil
          go_simp
          (try gi_wp2_with fail)
          refine hKK _ _ (by first | (go_keep; done) | ((repeat' apply And.intro) <;> go_simp)) (fun hHeld => ?_)
          clear hKK KK
          try simp only [Act.put, List.setIfInBounds_toArray, List.set_cons_zero, List.set_cons_succ]
          refine wpAnyHF_done (by kernel_rfl) (NoPanic.normal ?_) _
          refine ⟨rfl, _, _, rfl, ?_, ?_, ?_, ?_, ?_, ?_, ?_, ?_, ?_, ?_, ?_, ?_, ?_, ?_, ?_, ?_, ?_, ?_, (by repeat (first | with_reducible exact Below.refl _ _ | with_reducible assumption | with_reducible refine Below.setCell ?_ (by first | omega | (simp <;> omega)) _ | with_reducible refine balloc ?_ _ | with_reducible refine Below.drew ?_ | with_reducible refine bstep ?_ (by with_reducible assumption)))⟩
          all_goals first | (with_reducible assumption) | go_simp
    case rest =>
      obtain ⟨rfl, gm, gi, rfl, km0, km1, km2, km3, km4, km5, ki0, ki1, ki2, ki3, ki4, ki5, ka0, kb0, kc0, kx0, kx1, kr0, hb2⟩ := NoPanic.imp _ _ _ h
      clear h SA SB
      have bR2 := bxd_below bR1 hb2 zr
      have hbut : Kp [w.heap.size + 1 + 1 + 1] (w.heap.size + 1 + 1 + 1 + 1 + 1 + 1) W W2 := Kp.below hb2 (by omega)
      have hkf := keeps_of_below hb2
      have fR2 := bR2.frozen
      clear hb2
      by_cases c1 : sa1 = c
      · by_cases c2 : sb1 = c
        · by_cases c3 : sb2 < sa2
          · gi_wp2
            exact ⟨(hkf.from _).trans ((KeepsOthers.setCell _ _ _).from _), ⟨⟨rfl, by rw [HO.out, HV.out]; simp [c1, c2, c3]⟩, bR2.set _⟩, (hK1.trans hbut).set (p := ⟨w.heap.size + 1 + 1 + 1, 0, none⟩) (by simp) _⟩
          · gi_wp2
            exact ⟨hkf.from _, hbut, ⟨by rw [HO.out, HN.out, HV.out]; simp [c1, c2] <;> omega, bR2⟩, hK1.trans hbut⟩
        · gi_wp2
          exact ⟨(hkf.from _).trans ((KeepsOthers.setCell _ _ _).from _), ⟨⟨rfl, by rw [HO.out, HV.out]; simp [c1, c2]⟩, bR2.set _⟩, (hK1.trans hbut).set (p := ⟨w.heap.size + 1 + 1 + 1, 0, none⟩) (by simp) _⟩
      · gi_wp2
        exact ⟨hkf.from _, hbut, ⟨by rw [HO.out, HN.out, HV.out]; simp [c1], bR2⟩, hK1.trans hbut⟩
  case done =>
    rintro D ys W hD rfl ⟨⟨hbad, bR1⟩, hK1⟩ hK
    have kR := bR1.cell
    have fR := bR1.frozen
    have HN := Lib.hid hbad
    clear hbad
    gi_wp2
    have hK' := (KeepsOthers.setCell W ⟨w.heap.size + 1 + 1 + 1, 0, none⟩ (.bool true)).same D _ hK rfl
    refine ⟨by simp, .inl ⟨_, _, rfl, run_takeDeferred hK', ?_⟩⟩
    have hc5 := cell_kept (bR1.set (.bool true)).cell (grownBy_putObj' _ D (.deferred none)) (fun r e => by cases e; exact ⟨_, hK', rfl⟩)
    refine ⟨(.bool true), ?_, by have h := HN.out; rw [two_fl] at h; rw [h]; rfl, ?_⟩
    · simp [results, Try.f42, go_sem, hc5]
    · exact (hB0.trans ((hK1.but.below (by omega) (by simp; omega)).setCell (p := ⟨w.heap.size + 1 + 1 + 1, 0, none⟩) (by simp <;> omega) _)).trans (belowK_b (w := w) (Nat.le_refl _) _ D _ _ (by omega) hK' rfl rfl)
  case stop =>
    rintro D cc pre W hD hpre ⟨⟨⟨rfl, hbad⟩, bR1⟩, hK1⟩ hK
    have HN := Lib.hid hbad
    clear hbad
    gi_wp2
    refine ⟨by simp, .inl ⟨_, _, rfl, run_takeDeferred hK, ?_⟩⟩
    have hc5 := cell_kept bR1.cell (grownBy_putObj' _ D (.deferred none)) (fun r e => by cases e; exact ⟨_, hK, rfl⟩)
    refine ⟨(.bool false), ?_, by rw [two_fl] at hpre; rw [badD_mono hpre HN.out]; rfl, ?_⟩
    · simp [results, Try.f42, go_sem, hc5]
    · exact (hB0.trans (hK1.but.below (by omega) (by simp; omega))).trans (belowK_b (w := w) (Nat.le_refl _) _ D _ _ (by omega) hK rfl rfl)

theorem holds_c (va vb : Value) (c : Int) (a b : List Sec) (w : World) (ha : Secs w va a) (hb : Secs w vb b) (a24 : a.length ≤ 24) (b24 : b.length ≤ 24) (alla : allS a) (allb : allS b) :
    Calls Try.prog 42 #[va, vb, (.int .i64 c)] w (Ret w (.bool (hoL a b c))) := by
  rw [← badD_ho (allS_app alla allb)]
  exact callsIn_wide.1 (holds_in 6 (Nat.le_refl _) va vb c a b w ha hb a24 b24 alla allb)


end Go.Proofs.Ytpadkmlckmopfaa.Se
