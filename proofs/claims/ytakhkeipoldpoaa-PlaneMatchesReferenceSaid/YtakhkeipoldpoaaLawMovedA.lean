/- LawMovedA: the law's walk. -/
import Derived.Test.YtakhkeipoldpoaaHeadA
import Derived.Test.YtakhkeipoldpoaaPlaneO
namespace Go.Proofs.Ytakhkeipoldpoaa
open Go.RowKit


theorem on_iso {p1 p2 a1 a2 b1 b2 q1 q2 c1 c2 d1 d2 : Int} (h0 : cross a1 a2 b1 b2 p1 p2 = 0 → cross c1 c2 d1 d2 q1 q2 = 0) (h1 : dot c1 c2 d1 d2 q1 q2 = dot a1 a2 b1 b2 p1 p2) (h2 : sq c1 c2 d1 d2 = sq a1 a2 b1 b2)
    (h3 : c1 = d1 → c2 = d2 → a1 = b1 ∧ a2 = b2) (h4 : p1 = a1 → p2 = a2 → q1 = c1 ∧ q2 = c2) (h : on p1 p2 a1 a2 b1 b2 = true) : on q1 q2 c1 c2 d1 d2 = true := by
  obtain ⟨g0, g1, g2, g3⟩ := on_elim h
  refine on_intro (h0 g0) (by omega) (by omega) (fun k1 k2 => ?_)
  obtain ⟨e1, e2⟩ := h3 k1 k2
  obtain ⟨e3, e4⟩ := g3 e1 e2
  exact h4 e3 e4
theorem near_iso {p1 p2 a1 a2 b1 b2 q1 q2 c1 c2 d1 d2 r : Int} (h0 : cross c1 c2 d1 d2 q1 q2 * cross c1 c2 d1 d2 q1 q2 = cross a1 a2 b1 b2 p1 p2 * cross a1 a2 b1 b2 p1 p2) (h1 : dot c1 c2 d1 d2 q1 q2 = dot a1 a2 b1 b2 p1 p2) (h2 : sq c1 c2 d1 d2 = sq a1 a2 b1 b2)
    (h3 : sq c1 c2 q1 q2 = sq a1 a2 p1 p2) (h4 : sq d1 d2 q1 q2 = sq b1 b2 p1 p2) (h5 : (c1 = d1 ∧ c2 = d2) ↔ (a1 = b1 ∧ a2 = b2)) : nearB q1 q2 c1 c2 d1 d2 r = nearB p1 p2 a1 a2 b1 b2 r := by
  rw [Bool.eq_iff_iff, near_iff, near_iff, h0, h1, h2, h3, h4, h5]
/-- A quarter turn, or a mirror: what does not turn. -/
def Iso (f : Int → Int → Int × Int) (s : Int) : Prop := (s = 1 ∨ s = -1) ∧ (∀ a1 a2 b1 b2 c1 c2, cross (f a1 a2).1 (f a1 a2).2 (f b1 b2).1 (f b1 b2).2 (f c1 c2).1 (f c1 c2).2 = s * cross a1 a2 b1 b2 c1 c2) ∧
  (∀ a1 a2 b1 b2 c1 c2, dot (f a1 a2).1 (f a1 a2).2 (f b1 b2).1 (f b1 b2).2 (f c1 c2).1 (f c1 c2).2 = dot a1 a2 b1 b2 c1 c2) ∧
  (∀ a1 a2 b1 b2, ((f a1 a2).1 = (f b1 b2).1 ∧ (f a1 a2).2 = (f b1 b2).2) ↔ (a1 = b1 ∧ a2 = b2))
theorem iso_turn (v1 v2 : Int) : Iso (fun x y => (v1 - y, v2 + x)) 1 := by
  refine ⟨.inl rfl, fun a1 a2 b1 b2 c1 c2 => ?_, fun a1 a2 b1 b2 c1 c2 => ?_, fun a1 a2 b1 b2 => ?_⟩
  · unfold cross; grind
  · unfold dot; grind
  · dsimp only; omega
theorem iso_mirror (v1 v2 : Int) : Iso (fun x y => (v1 - x, v2 + y)) (-1) := by
  refine ⟨.inr rfl, fun a1 a2 b1 b2 c1 c2 => ?_, fun a1 a2 b1 b2 c1 c2 => ?_, fun a1 a2 b1 b2 => ?_⟩
  · unfold cross; grind
  · unfold dot; grind
  · dsimp only; omega
section
variable {f : Int → Int → Int × Int} {s : Int}
theorem iso_sq (h : Iso f s) (a1 a2 b1 b2 : Int) : sq (f a1 a2).1 (f a1 a2).2 (f b1 b2).1 (f b1 b2).2 = sq a1 a2 b1 b2 := h.2.2.1 _ _ _ _ _ _
theorem iso_cross0 (h : Iso f s) (a1 a2 b1 b2 c1 c2 : Int) : cross (f a1 a2).1 (f a1 a2).2 (f b1 b2).1 (f b1 b2).2 (f c1 c2).1 (f c1 c2).2 = 0 ↔ cross a1 a2 b1 b2 c1 c2 = 0 := by
  rw [h.2.1]
  rcases h.1 with rfl | rfl <;> omega
theorem iso_on (h : Iso f s) (p1 p2 a1 a2 b1 b2 : Int) : on (f p1 p2).1 (f p1 p2).2 (f a1 a2).1 (f a1 a2).2 (f b1 b2).1 (f b1 b2).2 = on p1 p2 a1 a2 b1 b2 := by
  have e := h.2.2.2
  rw [Bool.eq_iff_iff]
  constructor
  · exact on_iso (iso_cross0 h a1 a2 b1 b2 p1 p2).1 (h.2.2.1 a1 a2 b1 b2 p1 p2).symm (iso_sq h a1 a2 b1 b2).symm (fun k1 k2 => (e a1 a2 b1 b2).2 ⟨k1, k2⟩) (fun k1 k2 => (e p1 p2 a1 a2).1 ⟨k1, k2⟩)
  · exact on_iso (iso_cross0 h a1 a2 b1 b2 p1 p2).2 (h.2.2.1 a1 a2 b1 b2 p1 p2) (iso_sq h a1 a2 b1 b2) (fun k1 k2 => (e a1 a2 b1 b2).1 ⟨k1, k2⟩) (fun k1 k2 => (e p1 p2 a1 a2).2 ⟨k1, k2⟩)
theorem iso_near (h : Iso f s) (p1 p2 a1 a2 b1 b2 r : Int) : nearB (f p1 p2).1 (f p1 p2).2 (f a1 a2).1 (f a1 a2).2 (f b1 b2).1 (f b1 b2).2 r = nearB p1 p2 a1 a2 b1 b2 r := by
  refine near_iso ?_ (h.2.2.1 a1 a2 b1 b2 p1 p2) (iso_sq h a1 a2 b1 b2) (iso_sq h a1 a2 p1 p2) (iso_sq h b1 b2 p1 p2) (h.2.2.2 a1 a2 b1 b2)
  rw [h.2.1]
  rcases h.1 with rfl | rfl <;> grind
theorem iso_crossB (h : Iso f s) (a1 a2 b1 b2 c1 c2 d1 d2 : Int) : crossB (f a1 a2).1 (f a1 a2).2 (f b1 b2).1 (f b1 b2).2 (f c1 c2).1 (f c1 c2).2 (f d1 d2).1 (f d1 d2).2 = crossB a1 a2 b1 b2 c1 c2 d1 d2 := by
  rw [Bool.eq_iff_iff, crossB_iff, crossB_iff, h.2.1, h.2.1]
  have e : s * cross a1 a2 b1 b2 c1 c2 * (s * cross a1 a2 b1 b2 d1 d2) = cross a1 a2 b1 b2 c1 c2 * cross a1 a2 b1 b2 d1 d2 := by
    rcases h.1 with rfl | rfl <;> grind
  rw [e]
theorem iso_meet (h : Iso f s) (a1 a2 b1 b2 c1 c2 d1 d2 : Int) : meetB (f a1 a2).1 (f a1 a2).2 (f b1 b2).1 (f b1 b2).2 (f c1 c2).1 (f c1 c2).2 (f d1 d2).1 (f d1 d2).2 = meetB a1 a2 b1 b2 c1 c2 d1 d2 := by
  unfold meetB anyOn
  rw [iso_crossB h, iso_crossB h, iso_on h, iso_on h, iso_on h, iso_on h]
theorem iso_close (h : Iso f s) (a1 a2 b1 b2 c1 c2 d1 d2 r : Int) : closeB (f a1 a2).1 (f a1 a2).2 (f b1 b2).1 (f b1 b2).2 (f c1 c2).1 (f c1 c2).2 (f d1 d2).1 (f d1 d2).2 r = closeB a1 a2 b1 b2 c1 c2 d1 d2 r := by
  unfold closeB anyNear
  rw [iso_meet h, iso_near h, iso_near h, iso_near h, iso_near h]
end
theorem cell_al {W : World} {a : Addr} {v : Value} (o : Obj) (h : W.cell? a = some v) : (W.alloc o).cell? a = some v := by
  rw [World.cell?_alloc_some _ _ _ (by rw [h]; rfl)]
  exact h
theorem cmp_neg5 (x : Int) : cmp (-x) 0 = - cmp x 0 := by
  unfold cmp
  repeat' split
  all_goals omega

set_option maxHeartbeats 800000 in
theorem mirror_c (p1 p2 v1 v2 : Int) (w : World) (hp : ok p1 p2) (hv : ok v1 v2) : Calls Try.prog 30 #[(.agg #[.int .i64 p1, .int .i64 p2]), (.agg #[.int .i64 v1, .int .i64 v2]), (.bool true)] w (Ret w (.agg #[(.int .i64 (v1 - p1)), (.int .i64 (v2 + p2))])) := by
  obtain ⟨a1, a2, a3, a4⟩ := hp
  obtain ⟨b1, b2, b3, b4⟩ := hv
  go_enter Try.func30, Try.ntmps30
  go_wp2_with fail
  refine (at_c _ _ _).mono ?_
  rintro e w1 ⟨rfl, hb1⟩
  obtain ⟨hc', hf'⟩ := bcell hb1
  have hbw : Below w.heap.size w w1 := (by repeat (first | exact Below.refl _ _ | assumption | refine bstep ?_ (by assumption) | refine Below.drew ?_ | refine balloc ?_ _ | refine Below.setCell ?_ (by first | omega | (simp <;> omega)) _))
  go_wp2
  exact bodyPost_ret (v := (.agg #[(.int .i64 (v1 - p1)), (.int .i64 (v2 + p2))])) (by simp [results, Try.results30, go_sem, hc']) rfl ⟨rfl, (by repeat (first | exact Below.refl _ _ | assumption | refine bstep ?_ (by assumption) | refine Below.drew ?_ | refine balloc ?_ _ | refine Below.setCell ?_ (by first | omega | (simp <;> omega)) _))⟩
set_option maxHeartbeats 800000 in
theorem quarter_c (p1 p2 v1 v2 : Int) (w : World) (hp : ok p1 p2) (hv : ok v1 v2) : Calls Try.prog 30 #[(.agg #[.int .i64 p1, .int .i64 p2]), (.agg #[.int .i64 v1, .int .i64 v2]), (.bool false)] w (Ret w (.agg #[(.int .i64 (v1 - p2)), (.int .i64 (v2 + p1))])) := by
  obtain ⟨a1, a2, a3, a4⟩ := hp
  obtain ⟨b1, b2, b3, b4⟩ := hv
  go_enter Try.func30, Try.ntmps30
  go_wp2_with fail
  refine (at_c _ _ _).mono ?_
  rintro e w1 ⟨rfl, hb1⟩
  obtain ⟨hc', hf'⟩ := bcell hb1
  have hbw : Below w.heap.size w w1 := (by repeat (first | exact Below.refl _ _ | assumption | refine bstep ?_ (by assumption) | refine Below.drew ?_ | refine balloc ?_ _ | refine Below.setCell ?_ (by first | omega | (simp <;> omega)) _))
  go_wp2
  exact bodyPost_ret (v := (.agg #[(.int .i64 (v1 - p2)), (.int .i64 (v2 + p1))])) (by simp [results, Try.results30, go_sem, hc']) rfl ⟨rfl, (by repeat (first | exact Below.refl _ _ | assumption | refine bstep ?_ (by assumption) | refine Below.drew ?_ | refine balloc ?_ _ | refine Below.setCell ?_ (by first | omega | (simp <;> omega)) _))⟩

set_option maxRecDepth 100000 in
set_option maxHeartbeats 6400000 in
theorem moved_bad1 (a1 a2 b1 b2 c1 c2 d1 d2 v1 v2 : Int) (r : Int) (m : Bool) (w : World) (h : ¬ (ok a1 a2 ∧ ok b1 b2 ∧ ok c1 c2 ∧ ok d1 d2 ∧ ok v1 v2)) : Calls Try.prog 10 #[(.agg #[.int .i64 a1, .int .i64 a2]), (.agg #[.int .i64 b1, .int .i64 b2]), (.agg #[.int .i64 c1, .int .i64 c2]), (.agg #[.int .i64 d1, .int .i64 d2]), (.int .i64 r), (.agg #[.int .i64 v1, .int .i64 v2]), (.bool m)] w (Ret w (.bool true)) := by
  by_cases ha : okB a1 a2 = true
  · by_cases hb : okB b1 b2 = true
    · by_cases hc0 : okB c1 c2 = true
      · by_cases hd : okB d1 d2 = true
        · have hv : okB v1 v2 = false := by
            rw [Bool.eq_false_iff]
            exact fun k => h ⟨okB_iff.1 ha, okB_iff.1 hb, okB_iff.1 hc0, okB_iff.1 hd, okB_iff.1 k⟩
          clear h
          go_enter Try.func10, Try.ntmps10
          go_wp2_with fail
          refine (head_c _).mono ?_
          rintro e w1 ⟨rfl, hbW⟩
          have hc := (bcell hbW).1
          go_wp2_with (first | (go_at_call 12; refine Calls.mono (valid_c _ _ _) ?_; rintro e w1 ⟨rfl, hb1⟩; replace hbW := bstep hbW hb1; clear hc; have hc := (bcell hbW).1; clear hb1))
          all_goals
            go_ret
            exact ret_bool (by simp) (by repeat (first | exact Below.refl _ _ | assumption | refine bstep ?_ (by assumption) | refine Below.drew ?_ | refine balloc ?_ _ | refine Below.setCell ?_ (by first | omega | (simp <;> omega)) _))
        · have hd : okB d1 d2 = false := by simpa using hd
          clear h
          go_enter Try.func10, Try.ntmps10
          go_wp2_with fail
          refine (head_c _).mono ?_
          rintro e w1 ⟨rfl, hbW⟩
          have hc := (bcell hbW).1
          go_wp2_with (first | (go_at_call 12; refine Calls.mono (valid_c _ _ _) ?_; rintro e w1 ⟨rfl, hb1⟩; replace hbW := bstep hbW hb1; clear hc; have hc := (bcell hbW).1; clear hb1))
          all_goals
            go_ret
            exact ret_bool (by simp) (by repeat (first | exact Below.refl _ _ | assumption | refine bstep ?_ (by assumption) | refine Below.drew ?_ | refine balloc ?_ _ | refine Below.setCell ?_ (by first | omega | (simp <;> omega)) _))
      · have hc0 : okB c1 c2 = false := by simpa using hc0
        clear h
        go_enter Try.func10, Try.ntmps10
        go_wp2_with fail
        refine (head_c _).mono ?_
        rintro e w1 ⟨rfl, hbW⟩
        have hc := (bcell hbW).1
        go_wp2_with (first | (go_at_call 12; refine Calls.mono (valid_c _ _ _) ?_; rintro e w1 ⟨rfl, hb1⟩; replace hbW := bstep hbW hb1; clear hc; have hc := (bcell hbW).1; clear hb1))
        all_goals
          go_ret
          exact ret_bool (by simp) (by repeat (first | exact Below.refl _ _ | assumption | refine bstep ?_ (by assumption) | refine Below.drew ?_ | refine balloc ?_ _ | refine Below.setCell ?_ (by first | omega | (simp <;> omega)) _))
    · have hb : okB b1 b2 = false := by simpa using hb
      clear h
      go_enter Try.func10, Try.ntmps10
      go_wp2_with fail
      refine (head_c _).mono ?_
      rintro e w1 ⟨rfl, hbW⟩
      have hc := (bcell hbW).1
      go_wp2_with (first | (go_at_call 12; refine Calls.mono (valid_c _ _ _) ?_; rintro e w1 ⟨rfl, hb1⟩; replace hbW := bstep hbW hb1; clear hc; have hc := (bcell hbW).1; clear hb1))
      all_goals
        go_ret
        exact ret_bool (by simp) (by repeat (first | exact Below.refl _ _ | assumption | refine bstep ?_ (by assumption) | refine Below.drew ?_ | refine balloc ?_ _ | refine Below.setCell ?_ (by first | omega | (simp <;> omega)) _))
  · have ha : okB a1 a2 = false := by simpa using ha
    clear h
    go_enter Try.func10, Try.ntmps10
    go_wp2_with fail
    refine (head_c _).mono ?_
    rintro e w1 ⟨rfl, hbW⟩
    have hc := (bcell hbW).1
    go_wp2_with (first | (go_at_call 12; refine Calls.mono (valid_c _ _ _) ?_; rintro e w1 ⟨rfl, hb1⟩; replace hbW := bstep hbW hb1; clear hc; have hc := (bcell hbW).1; clear hb1))
    all_goals
      go_ret
      exact ret_bool (by simp) (by repeat (first | exact Below.refl _ _ | assumption | refine bstep ?_ (by assumption) | refine Below.drew ?_ | refine balloc ?_ _ | refine Below.setCell ?_ (by first | omega | (simp <;> omega)) _))

end Go.Proofs.Ytakhkeipoldpoaa
