/- TurA: a quarter turn. -/
import Derived.Test.YtpadkmlckmopfaaOneA
import Derived.Test.YtpadkmlckmopfaaSecS

namespace Go.Proofs.Ytpadkmlckmopfaa.Se
open Go.RowKit
set_option linter.unusedSimpArgs false
set_option linter.unusedVariables false

/-- A quarter turn. -/
def qV (v : V) : V := (-v.2, v.1)
def qS (s : Sec) : Sec := ⟨-s.fy, s.fx, -s.ty, s.tx, s.co, s.ra⟩
def quL (l : List Sec) : List Sec := l.map qS
def quad (v : V) : Int := if 0 < v.1 ∧ 0 ≤ v.2 then 0 else if v.1 ≤ 0 ∧ 0 < v.2 then 1 else if v.1 < 0 ∧ v.2 ≤ 0 then 2 else 3
theorem quad_cases {v : V} (v0 : v ≠ (0, 0)) : (quad v = 0 ∧ 0 < v.1 ∧ 0 ≤ v.2) ∨ (quad v = 1 ∧ v.1 ≤ 0 ∧ 0 < v.2) ∨ (quad v = 2 ∧ v.1 < 0 ∧ v.2 ≤ 0) ∨ (quad v = 3 ∧ 0 ≤ v.1 ∧ v.2 < 0) := by
  have h1 : ¬ (v.1 = 0 ∧ v.2 = 0) := fun h => v0 (Prod.ext h.1 h.2)
  unfold quad
  split
  · omega
  · split
    · omega
    · split <;> omega
theorem q_ne {v : V} (v0 : v ≠ (0, 0)) : qV v ≠ (0, 0) := by
  intro h
  have h1 : -v.2 = 0 := congrArg Prod.fst h
  have h2 : v.1 = 0 := congrArg Prod.snd h
  exact v0 (Prod.ext h2 (by show v.2 = 0; omega))
theorem quad_q {v : V} (v0 : v ≠ (0, 0)) : quad (qV v) = (quad v + 1) % 4 := by
  have a := quad_cases v0
  have b := quad_cases (q_ne v0)
  simp only [qV] at b ⊢
  omega
theorem sg (a b : Int) : (0 < a ∧ 0 < b → 0 < a * b) ∧ (a < 0 ∧ b < 0 → 0 < a * b) ∧ (0 < a ∧ b < 0 → a * b < 0) ∧ (a < 0 ∧ 0 < b → a * b < 0) ∧ (a = 0 ∨ b = 0 → a * b = 0) :=
  ⟨fun h => Int.mul_pos h.1 h.2, fun h => Int.mul_pos_of_neg_of_neg h.1 h.2, fun h => Int.mul_neg_of_pos_of_neg h.1 h.2, fun h => Int.mul_neg_of_neg_of_pos h.1 h.2, fun h => by rcases h with h | h <;> simp [h]⟩
theorem cm_quad {d e : V} (d0 : d ≠ (0, 0)) (e0 : e ≠ (0, 0)) : cmV d e < 0 ↔ quad d < quad e ∨ (quad d = quad e ∧ crV e d < 0) := by
  rw [cmV_lt]
  have hd := halfV_cases d
  have he := halfV_cases e
  have s1 := sg e.1 d.2
  have s2 := sg e.2 d.1
  have ec : crV e d = e.1 * d.2 - e.2 * d.1 := rfl
  rw [ec]
  generalize e.1 * d.2 = p at *
  generalize e.2 * d.1 = r at *
  rcases quad_cases d0 with ⟨q1, a1, a2⟩ | ⟨q1, a1, a2⟩ | ⟨q1, a1, a2⟩ | ⟨q1, a1, a2⟩ <;> rcases quad_cases e0 with ⟨q2, b1, b2⟩ | ⟨q2, b1, b2⟩ | ⟨q2, b1, b2⟩ | ⟨q2, b1, b2⟩ <;> rw [q1, q2] <;> omega
theorem cr_q (d e : V) : crV (qV d) (qV e) = crV d e := by simp only [crV, qV]; grind
theorem cm_q1 {d e : V} (d0 : d ≠ (0, 0)) (e0 : e ≠ (0, 0)) (h : quad d = 3 ↔ quad e = 3) : cmV (qV d) (qV e) < 0 ↔ cmV d e < 0 := by
  rw [cm_quad d0 e0, cm_quad (q_ne d0) (q_ne e0), cr_q, quad_q d0, quad_q e0]
  have a := quad_cases d0
  have b := quad_cases e0
  omega
theorem cm_q2 {d e : V} (d0 : d ≠ (0, 0)) (e0 : e ≠ (0, 0)) (h : quad d = 3) (g : quad e ≠ 3) : cmV (qV d) (qV e) < 0 ∧ cmV e d < 0 := by
  rw [cm_quad e0 d0, cm_quad (q_ne d0) (q_ne e0), quad_q d0, quad_q e0]
  have a := quad_cases d0
  have b := quad_cases e0
  omega
/-- How two directions compare, before and behind the turn. -/
theorem cm_q {d e : V} (d0 : d ≠ (0, 0)) (e0 : e ≠ (0, 0)) : ((quad d = 3 ↔ quad e = 3) ∧ (cmV (qV d) (qV e) < 0 ↔ cmV d e < 0) ∧ (cmV (qV d) (qV e) ≤ 0 ↔ cmV d e ≤ 0)) ∨ (quad d = 3 ∧ quad e ≠ 3 ∧ cmV (qV d) (qV e) < 0 ∧ 0 < cmV d e) ∨ (quad d ≠ 3 ∧ quad e = 3 ∧ 0 < cmV (qV d) (qV e) ∧ cmV d e < 0) := by
  have a1 := cmV_anti d e
  have a2 := cmV_anti (qV d) (qV e)
  by_cases h : quad d = 3 <;> by_cases g : quad e = 3
  · have := cm_q1 d0 e0 (by omega)
    have := cm_q1 e0 d0 (by omega)
    omega
  · have := cm_q2 d0 e0 h g
    omega
  · have := cm_q2 e0 d0 g h
    omega
  · have := cm_q1 d0 e0 (by omega)
    have := cm_q1 e0 d0 (by omega)
    omega
theorem has_q {f t v : V} (f0 : f ≠ (0, 0)) (t0 : t ≠ (0, 0)) (v0 : v ≠ (0, 0)) : hasV (qV f) (qV t) (qV v) = hasV f t v := by
  have h1 := cm_q f0 t0
  have h2 := cm_q f0 v0
  have h3 := cm_q t0 v0
  unfold hasV
  generalize cmV (qV f) (qV t) = a1 at *
  generalize cmV (qV f) (qV v) = a2 at *
  generalize cmV (qV t) (qV v) = a3 at *
  generalize cmV f t = b1 at *
  generalize cmV f v = b2 at *
  generalize cmV t v = b3 at *
  generalize quad f = c1 at *
  generalize quad t = c2 at *
  generalize quad v = c3 at *
  clear f0 t0 v0
  rw [Bool.eq_iff_iff]
  split <;> split <;> simp only [Bool.and_eq_true, Bool.or_eq_true, Bool.not_eq_true', decide_eq_true_eq, decide_eq_false_iff_not] <;> omega
theorem okD_q (v : V) : okD (qV v) = okD v := by
  rw [Bool.eq_iff_iff, okD_iff, okD_iff]
  constructor
  · rintro ⟨h1, h2, h3⟩
    refine ⟨fun h => h1 (by rw [h]; rfl), ?_, ?_⟩ <;> simp only [qV] at * <;> omega
  · rintro ⟨h1, h2, h3⟩
    refine ⟨q_ne h1, ?_, ?_⟩ <;> simp only [qV] at * <;> omega
theorem vaS_q (s : Sec) : vaS (qS s) = vaS s := by
  unfold vaS
  rw [show (qS s).fr = qV s.fr from rfl, show (qS s).to = qV s.to from rfl, okD_q, okD_q]
  rfl
theorem hasS_q {s : Sec} (hs : vaS s = true) {v : V} (v0 : v ≠ (0, 0)) : hasS (qS s) (qV v) = hasS s v := by
  have a := vaS_iff.1 hs
  have f0 : s.fr ≠ (0, 0) := (okD_iff.1 a.1).1
  have t0 : s.to ≠ (0, 0) := (okD_iff.1 a.2.1).1
  clear a hs
  have h := has_q f0 t0 v0
  unfold hasS
  rw [show (qS s).fr = qV s.fr from rfl, show (qS s).to = qV s.to from rfl]
  exact h
theorem ovS_q {s t : Sec} (hs : vaS s = true) (ht : vaS t = true) : ovS (qS s) (qS t) = ovS s t := by
  unfold ovS
  rw [show (qS t).fr = qV t.fr from rfl, show (qS s).fr = qV s.fr from rfl, hasS_q hs (okD_iff.1 (vaS_iff.1 ht).1).1, hasS_q ht (okD_iff.1 (vaS_iff.1 hs).1).1]
theorem va_q {l : List Sec} (hl : vaL l = true) : vaL (quL l) = true := by
  obtain ⟨h1, h2, h3⟩ := (vaL_pair l).1 hl
  refine (vaL_pair _).2 ⟨by unfold quL; rw [List.length_map]; exact h1, fun s hs => ?_, ?_⟩
  · obtain ⟨t, ht, rfl⟩ := List.mem_map.1 hs
    rw [vaS_q]; exact h2 t ht
  · unfold quL
    rw [List.pairwise_map]
    exact h3.imp_of_mem fun {a b} ha hb h => by rw [ovS_q (h2 a ha) (h2 b hb)]; exact h
theorem sh_q {l : List Sec} (h : ∀ s ∈ l, vaS s = true) {v : V} (v0 : v ≠ (0, 0)) : shL (quL l) (qV v) = shL l v := by
  unfold shL quL
  induction l with
  | nil => rfl
  | cons a l ih =>
    rw [List.map_cons, List.find?_cons, List.find?_cons, hasS_q (h a (by simp)) v0]
    cases hasS a v
    · exact ih fun s hs => h s (List.mem_cons_of_mem _ hs)
    · rfl
theorem va_mem {l : List Sec} (hl : vaL l = true) : ∀ s ∈ l, vaS s = true := ((vaL_pair l).1 hl).2.1
theorem va_allS {l : List Sec} (hl : vaL l = true) : allS l := (vaL_all hl).2
theorem ho_q {a b : List Sec} (ha : vaL a = true) (hb : vaL b = true) {c : Int} (hc : 1 ≤ c) : hoL (quL a) (quL b) c = hoL a b c := by
  rw [Bool.eq_iff_iff, ho_iff (va_allS (va_q ha)) (va_allS (va_q hb)) hc, ho_iff (va_allS ha) (va_allS hb) hc]
  constructor
  · intro h v hv hk
    have v0 := (okD_iff.1 hv).1
    have := h (qV v) (by rw [okD_q]; exact hv)
    rw [sh_q (va_mem ha) v0, sh_q (va_mem hb) v0] at this
    exact this hk
  · intro h v hv hk
    have e : v = qV (v.2, -v.1) := by unfold qV; simp
    rw [e] at hv hk ⊢
    rw [okD_q] at hv
    have v0 := (okD_iff.1 hv).1
    rw [sh_q (va_mem ha) v0] at hk ⊢
    rw [sh_q (va_mem hb) v0]
    exact h _ hv hk
theorem gc_q (v : V) : gcI (qV v).1 (qV v).2 = gcI v.1 v.2 := by
  unfold gcI qV
  rw [Int.natAbs_neg, Nat.gcd_comm]
theorem leV_q (v : V) : leV (qV v) = qV (leV v) := by
  unfold leV
  rw [gc_q]
  simp only [qV, Int.neg_tdiv]
def qD (x : Dl) : Dl := ⟨qV x.1, by rw [okD_q]; exact x.2.1, by rw [gc_q]; exact x.2.2⟩
/-- Not behind. -/
def leD (x y : Dl) : Bool := !(ltOf fun x y : Dl => cmV x.1 y.1) y x
theorem leD_iff {x y : Dl} : leD x y = true ↔ cmV x.1 y.1 ≤ 0 := by
  unfold leD ltOf
  have := cmV_anti x.1 y.1
  simp only [Bool.not_eq_true', decide_eq_false_iff_not]
  omega
theorem leD_trans (x y z : Dl) (h1 : leD x y = true) (h2 : leD y z = true) : leD x z = true := by
  rw [leD_iff] at *
  exact cmV_trans (ne0 x.2.1) (ne0 y.2.1) (ne0 z.2.1) h1 h2
theorem leD_total (x y : Dl) : (leD x y || leD y x) = true := by
  rw [Bool.or_eq_true, leD_iff, leD_iff]
  have := cmV_anti x.1 y.1
  omega
theorem leD_anti (x y : Dl) (h1 : leD x y = true) (h2 : leD y x = true) : x = y := by
  refine cm_tot x y ?_ ?_
  · unfold leD at h2; simpa using h2
  · unfold leD at h1; simpa using h1
theorem srD_sorted (l : List Dl) : (srD l).Pairwise fun x y => leD x y = true := List.pairwise_mergeSort leD_trans leD_total l
theorem srD_uniq {l m : List Dl} (h : m.Perm l) (hs : m.Pairwise fun x y => leD x y = true) : srD l = m :=
  List.Perm.eq_of_pairwise (le := fun x y => leD x y = true) (fun a b _ _ => leD_anti a b) (srD_sorted l) hs ((srD_perm l).trans h.symm)
def w3 (x : Dl) : Bool := decide (quad x.1 = 3)
def loD (l : List Dl) : List Dl := (srD l).filter fun x => !w3 x
def hiD (l : List Dl) : List Dl := (srD l).filter w3
theorem lohi_perm (l : List Dl) : (loD l ++ hiD l).Perm l := by
  have h := List.filter_append_perm (fun x => !w3 x) (srD l)
  simp only [Bool.not_not] at h
  exact h.trans (srD_perm l)
theorem srD_split (l : List Dl) : srD l = loD l ++ hiD l := by
  refine srD_uniq (lohi_perm l) (List.pairwise_append.2 ⟨(srD_sorted l).filter _, (srD_sorted l).filter _, fun a ha b hb => ?_⟩)
  have h1 := (List.mem_filter.1 ha).2
  have h2 := (List.mem_filter.1 hb).2
  unfold w3 at h1 h2
  simp only [Bool.not_eq_true', decide_eq_false_iff_not, decide_eq_true_eq] at h1 h2
  rw [leD_iff]
  have := cm_q2 (ne0 b.2.1) (ne0 a.2.1) h2 h1
  omega
/-- The sorted turns behind a quarter turn. -/
theorem srD_q (l : List Dl) : srD (l.map qD) = (hiD l).map qD ++ (loD l).map qD := by
  have same : ∀ a b : Dl, (quad a.1 = 3 ↔ quad b.1 = 3) → leD a b = true → leD (qD a) (qD b) = true := fun a b h k => by
    rw [leD_iff] at *
    have := cm_q (ne0 a.2.1) (ne0 b.2.1)
    show cmV (qV a.1) (qV b.1) ≤ 0
    omega
  refine srD_uniq ?_ (List.pairwise_append.2 ⟨?_, ?_, fun a ha b hb => ?_⟩)
  · rw [← List.map_append]
    exact ((List.perm_append_comm).trans (lohi_perm l)).map qD
  · rw [List.pairwise_map]
    refine ((srD_sorted l).filter _).imp_of_mem fun {a b} ha hb h => same a b ?_ h
    have h1 := (List.mem_filter.1 ha).2
    have h2 := (List.mem_filter.1 hb).2
    unfold w3 at h1 h2
    simp only [decide_eq_true_eq] at h1 h2
    omega
  · rw [List.pairwise_map]
    refine ((srD_sorted l).filter _).imp_of_mem fun {a b} ha hb h => same a b ?_ h
    have h1 := (List.mem_filter.1 ha).2
    have h2 := (List.mem_filter.1 hb).2
    unfold w3 at h1 h2
    simp only [Bool.not_eq_true', decide_eq_false_iff_not] at h1 h2
    omega
  · obtain ⟨x, hx, rfl⟩ := List.mem_map.1 ha
    obtain ⟨y, hy, rfl⟩ := List.mem_map.1 hb
    have h1 := (List.mem_filter.1 hx).2
    have h2 := (List.mem_filter.1 hy).2
    unfold w3 at h1 h2
    simp only [Bool.not_eq_true', decide_eq_false_iff_not, decide_eq_true_eq] at h1 h2
    rw [leD_iff]
    have := cm_q2 (ne0 x.2.1) (ne0 y.2.1) h1 h2
    show cmV (qV x.1) (qV y.1) ≤ 0
    omega
/-- The least turns of a light. -/
def tD (l : List Sec) : List Dl := lsDl (tuD l)
theorem tD_val {l : List Sec} (h : allS l) : (tD l).map (·.1) = (tuL l).map leV := by unfold tD; rw [lsDl_val, lsD_tu h]
theorem tuL_q (l : List Sec) : tuL (quL l) = (tuL l).map qV := by
  unfold tuL quL
  rw [List.flatMap_map, List.map_flatMap]
  rfl
theorem tD_q {l : List Sec} (hl : vaL l = true) : tD (quL l) = (tD l).map qD := by
  have h1 := tD_val (va_allS hl)
  have h2 := tD_val (va_allS (va_q hl))
  have h3 : (tD (quL l)).map (·.1) = ((tD l).map qD).map (·.1) := by
    rw [h2, tuL_q, List.map_map, List.map_map]
    have e1 : (leV ∘ qV) = qV ∘ leV := funext leV_q
    have e2 : ((fun x : Dl => x.1) ∘ qD) = qV ∘ fun x : Dl => x.1 := rfl
    rw [e1, e2, ← List.map_map, ← List.map_map, h1]
  exact List.map_inj_right (f := fun x : Dl => x.1) (fun x y h => Subtype.ext h) |>.1 h3
/-- The sorted least turns, and those behind a quarter turn: two parts change places. -/
theorem sr_q {l : List Sec} (hl : vaL l = true) : ∃ A B : List V, srV ((tuL l).map leV) = A ++ B ∧ srV ((tuL (quL l)).map leV) = B.map qV ++ A.map qV ∧ (∀ x ∈ A ++ B, okD x = true) := by
  refine ⟨(loD (tD l)).map (·.1), (hiD (tD l)).map (·.1), ?_, ?_, ?_⟩
  · rw [← tD_val (va_allS hl), ← srD_val, srD_split, List.map_append]
  · rw [← tD_val (va_allS (va_q hl)), tD_q hl, ← srD_val, srD_q, List.map_append, List.map_map, List.map_map, List.map_map, List.map_map]
    rfl
  · intro x hx
    rw [← List.map_append] at hx
    obtain ⟨y, _, rfl⟩ := List.mem_map.1 hx
    exact y.2.1

end Go.Proofs.Ytpadkmlckmopfaa.Se
