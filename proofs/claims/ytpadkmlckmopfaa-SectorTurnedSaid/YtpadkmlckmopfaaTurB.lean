/- TurB: the length of what is turned. -/
import Derived.Test.YtpadkmlckmopfaaTurA

namespace Go.Proofs.Ytpadkmlckmopfaa.Se
open Go.RowKit
set_option linter.unusedSimpArgs false
set_option linter.unusedVariables false

theorem cmp_pos2 {x n : Int} (h : 0 < n) : cmp (n * x) 0 = cmp x 0 := by
  rcases cmp_cases x 0 with ⟨a, e⟩ | ⟨a, e⟩ | ⟨a, e⟩
  · have := Int.mul_neg_of_pos_of_neg h a
    rw [e]; unfold cmp; rw [if_pos this]
  · subst a; simp
  · have := Int.mul_pos h a
    rw [e]; unfold cmp; rw [if_neg (by omega), if_pos this]
theorem half_pos2 {n : Int} (h : 0 < n) (v : V) : halfV (n * v.1, n * v.2) = halfV v := by
  have a := sg n v.2
  have b := sg n v.1
  unfold halfV
  dsimp only
  generalize n * v.1 = p at *
  generalize n * v.2 = r at *
  split <;> split <;> omega
theorem cm_pos2 {n : Int} (hn : 0 < n) (d e : V) : cmV d (n * e.1, n * e.2) = cmV d e := by
  unfold cmV
  rw [half_pos2 hn]
  have : crV (n * e.1, n * e.2) d = n * crV e d := by simp only [crV]; grind
  rw [this, cmp_pos2 hn]
theorem has_le {f t v : V} (hv : okD v = true) : hasV f t (leV v) = hasV f t v := by
  have h0 := (okD_iff.1 hv).1
  have hp : 0 < gcI v.1 v.2 := gc_pos (fun h => h0 (Prod.ext h.1 h.2))
  have e : v = (gcI v.1 v.2 * (leV v).1, gcI v.1 v.2 * (leV v).2) := by
    refine Prod.ext ?_ ?_
    · exact (Int.mul_tdiv_cancel' (gc_dvd1 v.1 v.2)).symm
    · exact (Int.mul_tdiv_cancel' (gc_dvd2 v.1 v.2)).symm
  have h1 := cm_pos2 hp f (leV v)
  have h2 := cm_pos2 hp t (leV v)
  rw [← e] at h1 h2
  unfold hasV
  rw [h1, h2]
theorem sh_le (l : List Sec) {v : V} (hv : okD v = true) : shL l (leV v) = shL l v := find_congr fun s _ => has_le hv
theorem gv_rot {A B : List V} {k : Nat} (hk : k < (A ++ B).length) : gv (B.map qV ++ A.map qV) k = qV (gv (A ++ B) ((k + A.length) % (A ++ B).length)) := by
  rw [List.length_append] at hk ⊢
  unfold gv
  rw [List.getD_eq_getElem?_getD, List.getD_eq_getElem?_getD]
  rcases Nat.lt_or_ge k B.length with h | h
  · rw [List.getElem?_append_left (by rw [List.length_map]; exact h), List.getElem?_map]
    have e : (k + A.length) % (A.length + B.length) = A.length + k := by rw [Nat.mod_eq_of_lt (by omega)]; omega
    rw [e, List.getElem?_append_right (by omega), Nat.add_sub_cancel_left, List.getElem?_eq_getElem h]
    rfl
  · have e : (k + A.length) % (A.length + B.length) = k - B.length := by
      rw [show k + A.length = (k - B.length) + (A.length + B.length) by omega, Nat.add_mod_right, Nat.mod_eq_of_lt (by omega)]
    rw [List.getElem?_append_right (by rw [List.length_map]; exact h), List.length_map, List.getElem?_map, e, List.getElem?_append_left (by omega), List.getElem?_eq_getElem (show k - B.length < A.length by omega)]
    rfl
/-- At number k of the turns what is shown changes, and is of kind P. -/
def inK (f : V → Int × Int) (P : Int × Int → Bool) (s : List V) (k : Nat) : Bool := !decide (f (gv s k) = f (gv s ((k + s.length - 1) % s.length))) && P (f (gv s k))
def cnT (f : V → Int × Int) (P : Int × Int → Bool) (s : List V) : Nat := (List.range s.length).countP (inK f P s)
theorem chK_cnt (l : List Sec) (s : List V) (P : Int × Int → Bool) (k : Nat) : (chK l s k).countP (fun x => P (shL l x)) = (List.range k).countP (inK (shL l) P s) := by
  induction k with
  | zero => rfl
  | succ k ih =>
    rw [List.range_succ, List.countP_append, ← ih]
    simp only [chK]
    rw [List.countP_append]
    congr 1
    unfold inK
    by_cases h : shL l (gv s k) = shL l (gv s ((k + s.length - 1) % s.length))
    · rw [if_pos h]
      simp [h]
    · rw [if_neg h]
      simp [h]
theorem rot_cnt (G : Nat → Bool) (m j : Nat) : (List.range (m + j)).countP (fun k => G ((k + j) % (m + j))) = (List.range (m + j)).countP G := by
  have R : (List.range (m + j)).countP G = (List.range j).countP G + (List.range m).countP (G ∘ (j + ·)) := by
    rw [Nat.add_comm m j, List.range_add, List.countP_append, List.countP_map]
  rw [R, List.range_add, List.countP_append, List.countP_map, Nat.add_comm]
  congr 1
  · refine List.countP_congr fun i hi => ?_
    have hi := List.mem_range.1 hi
    have e : (m + i + j) % (m + j) = i := by rw [show m + i + j = i + (m + j) by omega, Nat.add_mod_right, Nat.mod_eq_of_lt (by omega)]
    simp only [Function.comp_apply, e]
  · refine List.countP_congr fun i hi => ?_
    have hi := List.mem_range.1 hi
    have e : (i + j) % (m + j) = j + i := by rw [Nat.mod_eq_of_lt (by omega)]; omega
    simp only [Function.comp_apply, e]
theorem cnT_rot {f g : V → Int × Int} (P : Int × Int → Bool) {A B : List V} (h : ∀ x ∈ A ++ B, g (qV x) = f x) : cnT g P (B.map qV ++ A.map qV) = cnT f P (A ++ B) := by
  unfold cnT
  have hl : (B.map qV ++ A.map qV).length = B.length + A.length := by rw [List.length_append, List.length_map, List.length_map]
  have hs : (A ++ B).length = B.length + A.length := by rw [List.length_append, Nat.add_comm]
  rw [hl, hs, ← rot_cnt (inK f P (A ++ B)) B.length A.length]
  refine List.countP_congr fun k hk => ?_
  have hk := List.mem_range.1 hk
  have key : ∀ i, i < B.length + A.length → g (gv (B.map qV ++ A.map qV) i) = f (gv (A ++ B) ((i + A.length) % (B.length + A.length))) := fun i hi => by
    rw [gv_rot (by omega), hs]
    exact h _ (gv_mem (by rw [hs]; exact Nat.mod_lt _ (by omega)))
  unfold inK
  rw [hl, hs, key k hk, key _ (Nat.mod_lt _ (by omega))]
  have e : ((k + (B.length + A.length) - 1) % (B.length + A.length) + A.length) % (B.length + A.length) = ((k + A.length) % (B.length + A.length) + (B.length + A.length) - 1) % (B.length + A.length) := by
    rw [Nat.mod_add_mod, show (k + A.length) % (B.length + A.length) + (B.length + A.length) - 1 = (k + A.length) % (B.length + A.length) + (B.length + A.length - 1) by omega, Nat.mod_add_mod]
    congr 1
    omega
  rw [e]
theorem noK_cnt (l : List Sec) (T : List V) (k : Nat) (hk : k ≤ T.length) : (noK l T k).length = (T.take k).countP fun x => !decide (shL l x = (0, 0)) := by
  induction k with
  | zero => simp [noK]
  | succ k ih =>
    have e : T.take (k + 1) = T.take k ++ [gv T k] := by
      rw [List.take_add_one, List.getElem?_eq_getElem (show k < T.length by omega)]
      unfold gv
      rw [List.getD_eq_getElem?_getD, List.getElem?_eq_getElem (show k < T.length by omega)]
      rfl
    rw [e, List.countP_append, ← ih (by omega)]
    simp only [noK]
    rw [List.length_append]
    congr 1
    by_cases h : shL l (gv T k) = (0, 0)
    · rw [if_pos h]; simp [h]
    · rw [if_neg h]; simp [h]
def soT (l : List Sec) : List V := srV ((tuL l).map leV)
theorem ch_cnt (l : List Sec) : (chL l).length = cnT (shL l) (fun _ => true) (soT l) := by
  have h := chK_cnt l (soT l) (fun _ => true) (soT l).length
  rw [List.countP_true] at h
  exact h
theorem no_cnt (l : List Sec) : (noL l).length = if cnT (shL l) (fun _ => true) (soT l) = 0 then (if shL l (1, 0) = (0, 0) then 0 else 1) else cnT (shL l) (fun c => !decide (c = (0, 0))) (soT l) := by
  unfold noL
  rw [noK_cnt _ _ _ (Nat.le_refl _), List.take_length, ← ch_cnt]
  unfold keL
  by_cases h : (chL l).length = 0
  · rw [if_pos h, if_pos h]
    by_cases h1 : shL l (1, 0) = (0, 0)
    · rw [if_pos h1]; simp [h1]
    · rw [if_neg h1]; simp [h1]
  · rw [if_neg h, if_neg h]
    exact chK_cnt l (soT l) (fun c => !decide (c = (0, 0))) (soT l).length
theorem all_same {f : V → Int × Int} {s : List V} (h : cnT f (fun _ => true) s = 0) : ∀ x ∈ s, f x = f (gv s 0) := by
  unfold cnT at h
  rw [List.countP_eq_zero] at h
  have key : ∀ i, i < s.length → f (gv s i) = f (gv s 0) := by
    intro i
    induction i with
    | zero => intro _; rfl
    | succ i ih =>
      intro hi
      have := h (i + 1) (List.mem_range.2 hi)
      unfold inK at this
      have e : (i + 1 + s.length - 1) % s.length = i := by rw [show i + 1 + s.length - 1 = i + s.length by omega, Nat.add_mod_right, Nat.mod_eq_of_lt (by omega)]
      rw [e] at this
      rw [← ih (by omega)]
      simpa using this
  intro x hx
  obtain ⟨i, hi, rfl⟩ := List.getElem_of_mem hx
  have e : gv s i = s[i] := by unfold gv; rw [List.getD_eq_getElem?_getD, List.getElem?_eq_getElem hi]; rfl
  rw [← e]
  exact key i hi
/-- Where nothing changes, all directions show one. -/
theorem const_sh {l : List Sec} (hl : allS l) (h : cnT (shL l) (fun _ => true) (soT l) = 0) {u v : V} (hu : u ≠ (0, 0)) (hv : v ≠ (0, 0)) : shL l u = shL l v := by
  have key : ∀ x : V, x ≠ (0, 0) → l ≠ [] → shL l x = shL l (gv (soT l) 0) := by
    intro x hx hne
    obtain ⟨t, ht, e, _⟩ := sh_turn (a := l) (b := []) (by rw [List.append_nil]; exact hl) (by rw [List.append_nil]; exact hne) hx
    rw [List.append_nil] at ht
    have ok := tuL_ok hl ht
    rw [e, ← sh_le l ok]
    exact all_same h _ ((List.mergeSort_perm _ _).mem_iff.2 (List.mem_map.2 ⟨t, ht, rfl⟩))
  by_cases hne : l = []
  · subst hne; rfl
  · rw [key u hu hne, key v hv hne]
/-- A quarter turn leaves the normal form's length. -/
theorem no_q {l : List Sec} (hl : vaL l = true) : (noL (quL l)).length = (noL l).length := by
  obtain ⟨A, B, h1, h2, h3⟩ := sr_q hl
  have e : ∀ P, cnT (shL (quL l)) P (soT (quL l)) = cnT (shL l) P (soT l) := fun P => by
    unfold soT
    rw [h1, h2]
    exact cnT_rot P fun x hx => sh_q (va_mem hl) (okD_iff.1 (h3 x hx)).1
  rw [no_cnt, no_cnt, e, e]
  by_cases h : cnT (shL l) (fun _ => true) (soT l) = 0
  · rw [if_pos h, if_pos h]
    have k1 := sh_q (va_mem hl) (v := (0, -1)) (by decide)
    rw [show qV (0, -1) = (1, 0) from rfl] at k1
    rw [k1, const_sh (va_allS hl) h (show ((0, -1) : V) ≠ (0, 0) by decide) (show ((1, 0) : V) ≠ (0, 0) by decide)]
  · rw [if_neg h, if_neg h]

end Go.Proofs.Ytpadkmlckmopfaa.Se
