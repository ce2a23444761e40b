/- PolF: what ranges over the edges: words, and the area. -/
import Derived.Test.YtfgajejhjbfhjaaGreatPolE
import Derived.Test.YtfgajejhjbfhjaaGreatRows
import Derived.RangeFuncNested
import Derived.RangeFuncBound
import Derived.RangeFuncCalls
import Derived.RangeFuncLeaves
import Derived.Shelf.Abstract
import Derived.Shelf.RegionOpen
import Derived.WalkKit
import Derived.OwnWalkIn
import Derived.TacticsInMore
import Derived.LoopNIn
import Derived.LoopIn
import Derived.Outline
import Derived.IntWalk
import Derived.Lib.Hide
namespace Go.Proofs.YtfgajejhjbfhjaaGreat.Po
open Go.RowKit Go.Shelf
set_option linter.unusedSimpArgs false
set_option linter.unusedVariables false
attribute [local go_sem] Oper.semAt_some

def Box2 (W : World) (B : Nat) (t : TypeId) (p : Pt) : Prop := W.heap[B]? = some (.cells #[(.int .i64 (p.1)), (.int .i64 (p.2))] t (0, 0))
theorem Box2.lt {W : World} {B : Nat} {t : TypeId} {p : Pt} (h : Box2 W B t p) : B < W.heap.size := (Array.getElem?_eq_some_iff.1 h).1
theorem Box2.c0 {W : World} {B : Nat} {t : TypeId} {p : Pt} (h : Box2 W B t p) : W.cell? ⟨B, 0, none⟩ = some (.int .i64 (p.1)) := by simp [World.cell?, show W.heap[B]? = _ from h]
theorem Box2.c1 {W : World} {B : Nat} {t : TypeId} {p : Pt} (h : Box2 W B t p) : W.cell? ⟨B, 1, none⟩ = some (.int .i64 (p.2)) := by simp [World.cell?, show W.heap[B]? = _ from h]
theorem Box2.new (W : World) (t : TypeId) (p : Pt) : Box2 (W.alloc (.cells #[(.int .i64 (p.1)), (.int .i64 (p.2))] t)) W.heap.size t p := World.alloc_heap_new W _
theorem Box2.alloc {W : World} {B : Nat} {t : TypeId} {p : Pt} (h : Box2 W B t p) (o : Obj) : Box2 (W.alloc o) B t p := (Below.heap_alloc W o B h.lt).trans h
theorem Box2.below {W W' : World} {B m : Nat} {t : TypeId} {p : Pt} (h : Box2 W B t p) (hb : Below m W W') (hm : B < m) : Box2 W' B t p := (hb.block B hm).trans h
theorem box2_own {β : Type} (B : Nat) (t : TypeId) (f : β → Pt) : Own (fun s W => Box2 W B t (f s)) := fun s X Y row hs hg hrow => by
  have h := hs
  refine (hg.block B h.lt (fun e => ?_)).trans hs
  obtain ⟨o, ho, hc⟩ := hrow B e.symm
  rw [show X.heap[B]? = _ from hs] at ho
  cases ho
  cases hc
theorem But.alloc {M : List Nat} {m : Nat} {w W : World} (h : But M m w W) (hm : m ≤ W.heap.size) (o : Obj) : But M m w (W.alloc o) :=
  h.trans ⟨rfl, rfl, rfl, by simp, fun k hk _ => Below.heap_alloc _ _ _ (by omega)⟩
theorem But.calls {M : List Nat} {m : Nat} {w W W' : World} (h : But M m w W) (hm : m ≤ W.heap.size) (k : Below W.heap.size W W') : But M m w W' := h.trans (But.of_below k hm)

/-- The two loop variables, boxed. -/
theorem two_boxes (W : World) (t : TypeId) (p q : Pt) (M : List Nat) (m B : Nat) (hm : m ≤ W.heap.size) :
    KeepsFrom B W ((W.alloc (.cells #[(.int .i64 (p.1)), (.int .i64 (p.2))] t)).alloc (.cells #[(.int .i64 (q.1)), (.int .i64 (q.2))] t)) ∧ But M m W ((W.alloc (.cells #[(.int .i64 (p.1)), (.int .i64 (p.2))] t)).alloc (.cells #[(.int .i64 (q.1)), (.int .i64 (q.2))] t)) ∧
    Box2 ((W.alloc (.cells #[(.int .i64 (p.1)), (.int .i64 (p.2))] t)).alloc (.cells #[(.int .i64 (q.1)), (.int .i64 (q.2))] t)) W.heap.size t p ∧ Box2 ((W.alloc (.cells #[(.int .i64 (p.1)), (.int .i64 (p.2))] t)).alloc (.cells #[(.int .i64 (q.1)), (.int .i64 (q.2))] t)) (W.heap.size + 1) t q := by
  refine ⟨((KeepsOthers.alloc _ _).trans (KeepsOthers.alloc _ _)).from _, ((But.refl _ _ W).alloc hm _).alloc (by simp; omega) _, (Box2.new W t p).alloc _, ?_⟩
  have := Box2.new (W.alloc (.cells #[(.int .i64 (p.1)), (.int .i64 (p.2))] t)) t q
  rw [World.size_alloc] at this
  exact this

def ae (e : Ed) : Int := e.1.1.1 * e.1.2.2 - e.1.1.2 * e.1.2.1
def areaE (es : List Ed) : Int := (es.map ae).sum
theorem areaE_snoc (es : List Ed) (x : Ed) : areaE (es ++ [x]) = areaE es + ae x := by simp [areaE]
theorem ae_bd (e : Ed) : -2000000000000 ≤ ae e ∧ ae e ≤ 2000000000000 := by
  obtain ⟨⟨⟨a1, a2⟩, b1, b2⟩, ha, hb⟩ := e
  have ha' : ok a1 a2 := ha
  have hb' : ok b1 b2 := hb
  unfold ok at ha' hb'
  simp only [ae]
  have h1 := mul_bd (a := a1) (b := b2) (A := 1000000) (B := 1000000) (by omega) (by omega) (by omega) (by omega)
  have h2 := mul_bd (a := a2) (b := b1) (A := 1000000) (B := 1000000) (by omega) (by omega) (by omega) (by omega)
  omega
theorem areaE_bd (es : List Ed) : -(2000000000000 * (es.length : Int)) ≤ areaE es ∧ areaE es ≤ 2000000000000 * (es.length : Int) := by
  induction es with
  | nil => simp [areaE]
  | cons e es ih =>
    have h := ae_bd e
    have he : areaE (e :: es) = ae e + areaE es := by simp [areaE]
    rw [he]
    simp only [List.length_cons]
    omega

set_option maxRecDepth 100000 in
set_option maxHeartbeats 2000000 in
theorem area_in (n : Nat) (hn : 6 ≤ n) (b off cap : Nat) (l : List Pt) (hl : okL l = true) (h24 : l.length ≤ 24) (h0l : 0 < l.length) (w : World) (hc : Row w b off l) :
    CallsIn Fence.wide n Tryz.prog 168 #[.slice (some ⟨b, off, none⟩) l.length cap] w fun e W' => e = .returned (.int .i64 (areaE (eds l hl))) ∧ Below w.heap.size w W' := by
  have h1 : 1 ≤ n := by omega
  have hbl := hc.lt h0l
  refine callsIn_of_wp_marks Tryz.func168 rfl trivial ?_ rfl
  simp only [Tryz.ntmps168, List.size_toArray, List.length_cons, List.length_nil, Nat.reduceAdd, Nat.reduceSub, Array.replicate_succ, Array.replicate_zero, List.push_toArray, List.append_toArray, List.nil_append, List.cons_append]
  gi_wp2_with (refine ⟨trivial, ?_⟩; gi_at_call 170; refine (edges_in (n - 1) _ _ _ _).mono ?_; rintro e w' ⟨rfl, rfl⟩)
  have bS := (Boxed.new w 3 (.int .i64 0)).alloc (.cells #[.slice (some ⟨b, off, none⟩) l.length cap] 158)
  have bP := Boxed.new (w.alloc (.cells #[(.int .i64 0)] 3)) 158 (.slice (some ⟨b, off, none⟩) l.length cap)
  simp only [World.size_alloc] at bP
  have hB0 : Below w.heap.size w ((w.alloc (.cells #[(.int .i64 0)] 3)).alloc (.cells #[.slice (some ⟨b, off, none⟩) l.length cap] 158)) := ((Below.refl _ w).alloc (Nat.le_refl _) _).alloc (by simp) _
  have hsz : ((w.alloc (.cells #[(.int .i64 0)] 3)).alloc (.cells #[.slice (some ⟨b, off, none⟩) l.length cap] 158)).heap.size = w.heap.size + 2 := by simp
  obtain ⟨W0, hW0⟩ : ∃ W0, (w.alloc (.cells #[(.int .i64 0)] 3)).alloc (.cells #[.slice (some ⟨b, off, none⟩) l.length cap] 158) = W0 := ⟨_, rfl⟩
  rw [hW0] at bS bP hB0 hsz ⊢
  clear hW0
  have hr0 := hc.below hbl hB0
  refine wpIn_rangeFunc_ownH rfl h1 (gf := 180) (lb := #[.pointer (some ⟨w.heap.size + 1, 0, none⟩)]) rfl trivial (enters_of Tryz.func180 (by kernel_rfl) rfl)
    (edges_stops (n - 1) (by omega) (w.heap.size + 1) (w.heap.size + 2) b off cap l hl h24 h0l (by omega) [w.heap.size] (by simp; omega) (by simp) W0 bP.cell (by omega) (by omega) hr0) but_t (but_b (by omega)) (Below.refl _ _) (fun _ => rfl)
    (fun pre W => Boxed W w.heap.size 3 (.int .i64 (areaE pre)) ∧ But [w.heap.size] (w.heap.size + 2) W0 W)
    (fun _ _ _ => False)
    (OwnFrom.and (Own.from (boxed_own _ _ _) _) (ownFrom_but (by omega) (by omega)))
    (fun _ _ _ _ _ hs _ _ => hs)
    ⟨by simpa [areaE] using bS, But.refl _ _ _⟩
    (fun x a' W => ∃ Bx By, Box2 W Bx 23 x.1.1 ∧ Box2 W By 23 x.1.2 ∧ a' = { tmps := #[.slice (some ⟨b, off, none⟩) l.length cap, undef, (.int .i64 0), .pointer (some ⟨w.heap.size, 0, none⟩), .pointer (some ⟨Bx, 0, none⟩), .pointer (some ⟨By, 0, none⟩), .slice (some ⟨b, off, none⟩) l.length cap, .func (.func 180) #[] #[.pointer (some ⟨w.heap.size + 1, 0, none⟩)], .agg #[(.int .i64 (x.1.1.1)), (.int .i64 (x.1.1.2))], .agg #[(.int .i64 (x.1.2.1)), (.int .i64 (x.1.2.2))], undef, undef, undef, undef, undef, undef, undef, undef, undef, undef, undef, undef, undef, undef], defers := [] })
    (fun x a' _ X Y row hs hg hr => by
      obtain ⟨Bx, By, e1, e2, e3⟩ := hs
      exact ⟨Bx, By, box2_own Bx _ (fun (_ : Unit) => x.1.1) () X Y row e1 hg (fun r e => (hr r e).2), box2_own By _ (fun (_ : Unit) => x.1.2) () X Y row e2 hg (fun r e => (hr r e).2), e3⟩)
    ?assign ?body ?done ?stop
  case assign =>
    rintro ll pre x W K ⟨bS1, hB1⟩ hK
    have hs1 := hB1.size
    unfold encE
    gi_wp2
    obtain ⟨t1, t2, t3, t4⟩ := two_boxes W 23 x.1.1 x.1.2 [w.heap.size] (w.heap.size + 2) W0.heap.size (by omega)
    exact hK _ _ t1 t2 ⟨(bS1.alloc _).alloc _, hB1.trans t2⟩ ⟨_, _, t3, t4, rfl⟩
  case body =>
    rintro ll pre ⟨⟨⟨a1, a2⟩, b1, b2⟩, ha, hb⟩ a' W hll ⟨r, hr⟩ ⟨bS1, hB1⟩ ⟨Bx, By, bx, by', rfl⟩ hlt
    have hsn := areaE_snoc pre ⟨((a1, a2), b1, b2), ha, hb⟩
    have hbd := areaE_bd pre
    have ha' : ok a1 a2 := ha
    have hb' : ok b1 b2 := hb
    unfold ok at ha' hb'
    have m1 := mul_bd (a := a1) (b := b2) (A := 1000000) (B := 1000000) (by omega) (by omega) (by omega) (by omega)
    have m2 := mul_bd (a := a2) (b := b1) (A := 1000000) (B := 1000000) (by omega) (by omega) (by omega) (by omega)
    obtain ⟨m11, m12⟩ := m1
    obtain ⟨m21, m22⟩ := m2
    simp only [Int.reduceMul] at m11 m12 m21 m22
    have k0 := bS1.cell
    have k1 := bS1.frozen
    have k2 := bx.c0
    have k3 := bx.c1
    have k4 := by'.c0
    have k5 := by'.c1
    simp only [ae] at hsn
    dsimp only at k2 k3 k4 k5
    have hlen : (pre.length : Int) < 24 := by omega
    obtain ⟨hbd1, hbd2⟩ := hbd
    have HS := Lib.hid hsn
    clear hsn
    generalize hA : areaE pre = A at *
    have HA := Lib.hid hA
    clear hA
    have hA1 : -48000000000000 ≤ A := by omega
    have hA2 : A ≤ 48000000000000 := by omega
    clear hbd1 hbd2
    gi_wp2
    refine ⟨(KeepsOthers.setCell _ _ _).from _, (But.refl _ _ W).set (p := ⟨w.heap.size, 0, none⟩) (by simp) _, ?_, hB1.set (p := ⟨w.heap.size, 0, none⟩) (by simp) _⟩
    have hq := bS1.set (.int .i64 (A + (a1 * b2 - a2 * b1)))
    rw [HS.out]
    exact hq
  case done =>
    rintro D ys W hD rfl ⟨bS1, hB1⟩ hK
    have k0 := bS1.cell
    gi_wp2
    refine ⟨by simp, .inl ⟨_, _, rfl, run_takeDeferred hK, ?_⟩⟩
    exact ⟨_, results_tmp rfl _ _ _, rfl, (hB0.trans (hB1.below (by omega) (by simp))).trans (belowK_b (w := w) (Nat.le_refl _) W D _ _ (by omega) hK rfl rfl)⟩
  case stop =>
    rintro D c pre W _ _ h _
    exact h.elim

end Go.Proofs.YtfgajejhjbfhjaaGreat.Po
