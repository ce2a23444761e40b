/- TidM: a table of heights, in plain words. -/
import Derived.Test.YtemogomligbgiaaSpanM
namespace Go.Proofs.Ytemogomligbgiaa.Ti
open Go.RowKit Sp
set_option linter.unusedVariables false

abbrev Pr := Int × Int
abbrev St := Pr × Pr
def gt (l : List Pr) (i : Nat) : Pr := l.getD i (0, 0)
/-- The least span that has both; what both have in common. -/
def jn (a b : Pr) : Pr := (min a.1 b.1, max a.2 b.2)
def mt (a b : Pr) : Pr := (max a.1 b.1, min a.2 b.2)
def okH (a : Pr) : Bool := vE 100000 a.1 a.2
theorem okH_iff {a : Pr} : okH a = true ↔ -100000 ≤ a.1 ∧ a.1 ≤ a.2 ∧ a.2 ≤ 100000 := vE_iff
def btB (n a b : Int) : Bool := decide (a ≤ n) && decide (n ≤ b)
theorem btB_iff {n a b : Int} : btB n a b = true ↔ a ≤ n ∧ n ≤ b := by simp [btB]
def tmB (n : Int) : Bool := btB n 0 10000000
def ndB (n : Int) : Bool := btB n (-1000000000000) 1000000000000
/-- The time of the last row. -/
def laT (s p : Int) (l : List Pr) : Int := s + ((l.length : Int) - 1) * p
/-- A valid table. -/
def vaT (s p : Int) (l : List Pr) : Bool := tmB s && (btB p 1 1000 && (btB l.length 1 200 && (tmB (laT s p l) && l.all okH)))
theorem vaT_iff {s p : Int} {l : List Pr} : vaT s p l = true ↔ (0 ≤ s ∧ s ≤ 10000000) ∧ (1 ≤ p ∧ p ≤ 1000) ∧ (1 ≤ l.length ∧ l.length ≤ 200) ∧ (0 ≤ laT s p l ∧ laT s p l ≤ 10000000) ∧ l.all okH = true := by
  simp only [vaT, Bool.and_eq_true, tmB, btB_iff]
  constructor
  · rintro ⟨a, b, c, d, e⟩; exact ⟨a, b, by omega, d, e⟩
  · rintro ⟨a, b, c, d, e⟩; exact ⟨a, b, by omega, d, e⟩
theorem all_gt {l : List Pr} (h : l.all okH = true) {i : Nat} (hi : i < l.length) : okH (gt l i) = true := by
  unfold gt
  rw [List.getD_eq_getElem?_getD, List.getElem?_eq_getElem hi]
  exact List.all_eq_true.1 h _ (List.getElem_mem hi)
theorem all_gt' {l : List Pr} (h : l.all okH = true) (i : Nat) : okH (gt l i) = true := by
  by_cases hi : i < l.length
  · exact all_gt h hi
  · unfold gt
    rw [List.getD_eq_getElem?_getD, List.getElem?_eq_none (by omega)]
    decide
theorem all_of_gt {l : List Pr} (h : ∀ i, i < l.length → okH (gt l i) = true) : l.all okH = true := by
  rw [List.all_eq_true]
  intro x hx
  obtain ⟨i, hi, e⟩ := List.mem_iff_getElem.1 hx
  have := h i hi
  unfold gt at this
  rw [List.getD_eq_getElem?_getD, List.getElem?_eq_getElem hi] at this
  rw [← e]; exact this
theorem jn_ok {a b : Pr} (ha : okH a = true) (hb : okH b = true) : okH (jn a b) = true := by
  rw [okH_iff] at *
  simp only [jn]
  omega
theorem mul_lt {k n p : Int} (h0 : 0 ≤ k) (hk : k ≤ n) (hp : 0 ≤ p) : 0 ≤ k * p ∧ k * p ≤ n * p :=
  ⟨Int.mul_nonneg h0 hp, Int.mul_le_mul_of_nonneg_right hk hp⟩

/-- The stretches: the time of row k, and the times before it. -/
def ptS (s p : Int) (l : List Pr) (k : Nat) : St := ((s + k * p, s + k * p), gt l k)
def mdS (s p : Int) (l : List Pr) (k : Nat) : St := ((s + ((k : Int) - 1) * p + 1, s + k * p - 1), jn (gt l (k - 1)) (gt l k))
def stK (s p : Int) (l : List Pr) : Nat → List St
  | 0 => []
  | k + 1 => stK s p l k ++ (if 0 < k ∧ 1 < p then [mdS s p l k] else []) ++ [ptS s p l k]
def strs (s p : Int) (l : List Pr) : List St := stK s p l l.length
theorem stK_mem {s p : Int} {l : List Pr} {X : St} {n : Nat} : X ∈ stK s p l n ↔ (∃ k, k < n ∧ X = ptS s p l k) ∨ (1 < p ∧ ∃ k, 0 < k ∧ k < n ∧ X = mdS s p l k) := by
  induction n with
  | zero => simp [stK]
  | succ n ih =>
    simp only [stK, List.mem_append, ih, List.mem_singleton]
    constructor
    · rintro ((h | h) | h)
      · rcases h with ⟨k, hk, e⟩ | ⟨h1, k, h0, hk, e⟩
        · exact .inl ⟨k, by omega, e⟩
        · exact .inr ⟨h1, k, h0, by omega, e⟩
      · split at h
        · next hc => rw [List.mem_singleton] at h; exact .inr ⟨hc.2, n, hc.1, by omega, h⟩
        · simp at h
      · exact .inl ⟨n, by omega, h⟩
    · rintro (⟨k, hk, e⟩ | ⟨h1, k, h0, hk, e⟩)
      · rcases Nat.lt_or_ge k n with h | h
        · exact .inl (.inl (.inl ⟨k, h, e⟩))
        · obtain rfl : k = n := by omega
          exact .inr e
      · rcases Nat.lt_or_ge k n with h | h
        · exact .inl (.inl (.inr ⟨h1, k, h0, h, e⟩))
        · obtain rfl : k = n := by omega
          refine .inl (.inr ?_)
          rw [if_pos ⟨h0, h1⟩, e]; simp
theorem stK_len (s p : Int) (l : List Pr) (n : Nat) : (stK s p l n).length ≤ 2 * n := by
  induction n with
  | zero => simp [stK]
  | succ n ih =>
    simp only [stK, List.length_append, List.length_singleton]
    have : (if 0 < n ∧ 1 < p then [mdS s p l n] else []).length ≤ 1 := by split <;> simp
    omega
theorem stK_prefix {s p : Int} {l : List Pr} {k n : Nat} (h : k ≤ n) : stK s p l k <+: stK s p l n := by
  obtain ⟨m, rfl⟩ := Nat.exists_eq_add_of_le h
  clear h
  induction m with
  | zero => exact List.prefix_refl _
  | succ m ih =>
    refine ih.trans ?_
    show _ <+: stK s p l (k + m) ++ _ ++ _
    rw [List.append_assoc]
    exact List.prefix_append _ _

/-- What is known of the height at a time. -/
def At (s p : Int) (l : List Pr) (x : Int) : Pr :=
  if (x - s) % p = 0 then gt l ((x - s) / p).toNat else jn (gt l ((x - s) / p).toNat) (gt l (((x - s) / p).toNat + 1))
theorem at_pt {s p : Int} (l : List Pr) (hp : 0 < p) (k : Nat) : At s p l (s + k * p) = gt l k := by
  unfold At
  have e : s + (k : Int) * p - s = k * p := by omega
  rw [e, Int.mul_emod_left, if_pos rfl, Int.mul_ediv_cancel _ (by omega), Int.toNat_natCast]
theorem div_md {p k r : Int} (hr : 0 < r) (hrp : r < p) : (k * p + r) % p = r ∧ (k * p + r) / p = k := by
  constructor
  · rw [Int.add_comm, Int.add_mul_emod_self_right]
    exact Int.emod_eq_of_lt (by omega) hrp
  · rw [Int.add_comm, Int.add_mul_ediv_right _ _ (by omega), Int.ediv_eq_zero_of_lt (by omega) hrp]
    omega
theorem at_md {s p : Int} (l : List Pr) (hp : 0 < p) {k : Nat} (hk : 0 < k) {x : Int} (h1 : s + ((k : Int) - 1) * p + 1 ≤ x) (h2 : x ≤ s + k * p - 1) : At s p l x = jn (gt l (k - 1)) (gt l k) := by
  have ek : (k : Int) * p = ((k : Int) - 1) * p + p := by rw [Int.sub_mul]; omega
  obtain ⟨r, hr⟩ : ∃ r, r = x - s - ((k : Int) - 1) * p := ⟨_, rfl⟩
  have ex : x - s = ((k : Int) - 1) * p + r := by omega
  obtain ⟨e1, e2⟩ := div_md (p := p) (k := (k : Int) - 1) (r := r) (by omega) (by omega)
  unfold At
  rw [ex, e1, e2, if_neg (by omega)]
  have e3 : ((k : Int) - 1).toNat = k - 1 := by omega
  rw [e3, Nat.sub_add_cancel hk]

/-- A stretch has in it what is known at its times. -/
theorem str_at {s p : Int} {l : List Pr} {n : Nat} (hp : 0 < p) {X : St} (h : X ∈ stK s p l n) :
    X.1.1 ≤ X.1.2 ∧ s ≤ X.1.1 ∧ X.1.2 ≤ s + ((n : Int) - 1) * p ∧ ∀ x, X.1.1 ≤ x → x ≤ X.1.2 → X.2 = At s p l x := by
  rcases stK_mem.1 h with ⟨k, hk, rfl⟩ | ⟨h1, k, h0, hk, rfl⟩
  · have m := mul_lt (k := k) (n := (n : Int) - 1) (p := p) (by omega) (by omega) (by omega)
    refine ⟨Int.le_refl _, by simp only [ptS]; omega, by simp only [ptS]; omega, fun x h1 h2 => ?_⟩
    simp only [ptS] at *
    obtain rfl : x = s + k * p := by omega
    exact (at_pt l hp k).symm
  · have m := mul_lt (k := k) (n := (n : Int) - 1) (p := p) (by omega) (by omega) (by omega)
    have m2 := mul_lt (k := (k : Int) - 1) (n := (n : Int) - 1) (p := p) (by omega) (by omega) (by omega)
    have ek : (k : Int) * p = ((k : Int) - 1) * p + p := by rw [Int.sub_mul]; omega
    simp only [mdS]
    exact ⟨by omega, by omega, by omega, fun x h3 h4 => (at_md l hp h0 h3 h4).symm⟩
/-- Each time of the table is in a stretch. -/
theorem str_cover {s p : Int} {l : List Pr} {n : Nat} (hp : 0 < p) {x : Int} (h1 : s ≤ x) (h2 : x ≤ s + ((n : Int) - 1) * p) : ∃ X ∈ stK s p l n, X.1.1 ≤ x ∧ x ≤ X.1.2 := by
  have hq := Int.mul_ediv_add_emod (x - s) p
  have h3 := Int.emod_nonneg (x - s) (b := p) (by omega)
  have h4 := Int.emod_lt_of_pos (x - s) hp
  have h5 : 0 ≤ (x - s) / p := Int.ediv_nonneg (by omega) (by omega)
  obtain ⟨q, hqq⟩ : ∃ q : Nat, (x - s) / p = q := ⟨((x - s) / p).toNat, by omega⟩
  generalize (x - s) % p = r at *
  rw [hqq] at hq
  have hc : p * (q : Int) = q * p := Int.mul_comm _ _
  have hqn : (q : Int) ≤ (n : Int) - 1 := by
    rcases Int.lt_or_le ((n : Int) - 1) q with h | h
    · have m := Int.mul_le_mul_of_nonneg_right (a := (n : Int) - 1 + 1) (b := q) (c := p) (by omega) (by omega)
      rw [Int.add_mul] at m
      omega
    · exact h
  rcases Int.lt_or_le 0 r with h | h
  · have hqn' : (q : Int) + 1 ≤ (n : Int) - 1 := by
      rcases Int.lt_or_le ((n : Int) - 1) (q + 1) with h | h
      · have : (q : Int) = (n : Int) - 1 := by omega
        rw [this] at hq hc; omega
      · exact h
    refine ⟨mdS s p l (q + 1), stK_mem.2 (.inr ⟨by omega, q + 1, by omega, by omega, rfl⟩), ?_, ?_⟩
    · simp only [mdS]
      have : ((q + 1 : Nat) : Int) - 1 = q := by omega
      rw [this]; omega
    · simp only [mdS]
      have : ((q + 1 : Nat) : Int) * p = q * p + p := by rw [Int.natCast_add, Int.add_mul]; omega
      rw [this]; omega
  · exact ⟨ptS s p l q, stK_mem.2 (.inl ⟨q, by omega, rfl⟩), by simp only [ptS]; omega, by simp only [ptS]; omega⟩

/-- The heights at all times of a span. -/
def duF (a acc : Pr) (X : St) : Pr := if rM X.1.1 X.1.2 a.1 a.2 then jn acc X.2 else acc
def duK (a acc : Pr) (L : List St) : Pr := L.foldl (duF a) acc
def duT (s p : Int) (l : List Pr) (a : Pr) : Pr := duK a (gt l ((a.1 - s) / p).toNat) (strs s p l)
theorem duK_snoc (a acc : Pr) (L : List St) (X : St) : duK a acc (L ++ [X]) = duF a (duK a acc L) X := by simp [duK]
theorem duF_lo {a acc : Pr} {X : St} {m : Int} : m ≤ (duF a acc X).1 ↔ m ≤ acc.1 ∧ (rM X.1.1 X.1.2 a.1 a.2 = true → m ≤ X.2.1) := by
  unfold duF
  split
  · next h => simp only [jn, h, forall_const]; omega
  · next h => simp [h]
theorem duF_hi {a acc : Pr} {X : St} {m : Int} : (duF a acc X).2 ≤ m ↔ acc.2 ≤ m ∧ (rM X.1.1 X.1.2 a.1 a.2 = true → X.2.2 ≤ m) := by
  unfold duF
  split
  · next h => simp only [jn, h, forall_const]; omega
  · next h => simp [h]
theorem duK_lo {a : Pr} {L : List St} {m : Int} : ∀ {acc : Pr}, m ≤ (duK a acc L).1 ↔ m ≤ acc.1 ∧ ∀ X ∈ L, rM X.1.1 X.1.2 a.1 a.2 = true → m ≤ X.2.1 := by
  induction L with
  | nil => simp [duK]
  | cons X L ih =>
    intro acc
    show m ≤ (duK a (duF a acc X) L).1 ↔ _
    rw [ih, duF_lo]
    simp only [List.forall_mem_cons, and_assoc]
theorem duK_hi {a : Pr} {L : List St} {m : Int} : ∀ {acc : Pr}, (duK a acc L).2 ≤ m ↔ acc.2 ≤ m ∧ ∀ X ∈ L, rM X.1.1 X.1.2 a.1 a.2 = true → X.2.2 ≤ m := by
  induction L with
  | nil => simp [duK]
  | cons X L ih =>
    intro acc
    show (duK a (duF a acc X) L).2 ≤ m ↔ _
    rw [ih, duF_hi]
    simp only [List.forall_mem_cons, and_assoc]
theorem at_row {s p : Int} (l : List Pr) (x : Int) : (At s p l x).1 ≤ (gt l ((x - s) / p).toNat).1 ∧ (gt l ((x - s) / p).toNat).2 ≤ (At s p l x).2 := by
  unfold At
  split
  · exact ⟨Int.le_refl _, Int.le_refl _⟩
  · simp only [jn]; omega
theorem du_lo {s p : Int} {l : List Pr} {a : Pr} {m : Int} (hp : 0 < p) (h1 : s ≤ a.1) (h2 : a.1 ≤ a.2) (h3 : a.2 ≤ laT s p l) :
    m ≤ (duT s p l a).1 ↔ ∀ y, a.1 ≤ y → y ≤ a.2 → m ≤ (At s p l y).1 := by
  unfold duT
  rw [duK_lo]
  constructor
  · rintro ⟨_, h⟩ y hy1 hy2
    obtain ⟨X, hX, c1, c2⟩ := str_cover (s := s) (l := l) (n := l.length) hp (x := y) (by omega) (by unfold laT at h3; omega)
    rw [← (str_at hp hX).2.2.2 y c1 c2]
    exact h X hX (rM_iff.2 (by omega))
  · intro h
    refine ⟨Int.le_trans (h a.1 (Int.le_refl _) h2) (at_row l a.1).1, fun X hX hm => ?_⟩
    rw [rM_iff] at hm
    obtain ⟨e1, _, _, e4⟩ := str_at hp hX
    rw [e4 (max X.1.1 a.1) (by omega) (by omega)]
    exact h _ (by omega) (by omega)
theorem du_hi {s p : Int} {l : List Pr} {a : Pr} {m : Int} (hp : 0 < p) (h1 : s ≤ a.1) (h2 : a.1 ≤ a.2) (h3 : a.2 ≤ laT s p l) :
    (duT s p l a).2 ≤ m ↔ ∀ y, a.1 ≤ y → y ≤ a.2 → (At s p l y).2 ≤ m := by
  unfold duT
  rw [duK_hi]
  constructor
  · rintro ⟨_, h⟩ y hy1 hy2
    obtain ⟨X, hX, c1, c2⟩ := str_cover (s := s) (l := l) (n := l.length) hp (x := y) (by omega) (by unfold laT at h3; omega)
    rw [← (str_at hp hX).2.2.2 y c1 c2]
    exact h X hX (rM_iff.2 (by omega))
  · intro h
    refine ⟨Int.le_trans (at_row l a.1).2 (h a.1 (Int.le_refl _) h2), fun X hX hm => ?_⟩
    rw [rM_iff] at hm
    obtain ⟨e1, _, _, e4⟩ := str_at hp hX
    rw [e4 (max X.1.1 a.1) (by omega) (by omega)]
    exact h _ (by omega) (by omega)
theorem str_ok {s p : Int} {l : List Pr} {n : Nat} (hl : l.all okH = true) {X : St} (h : X ∈ stK s p l n) : okH X.2 = true := by
  rcases stK_mem.1 h with ⟨k, hk, rfl⟩ | ⟨h1, k, h0, hk, rfl⟩
  · exact all_gt' hl k
  · exact jn_ok (all_gt' hl _) (all_gt' hl _)
theorem duK_ok {a : Pr} {L : List St} : ∀ {acc : Pr}, okH acc = true → (∀ X ∈ L, okH X.2 = true) → okH (duK a acc L) = true := by
  induction L with
  | nil => intro acc h _; exact h
  | cons X L ih =>
    intro acc h hL
    refine ih (acc := duF a acc X) ?_ (fun Y hY => hL Y (List.mem_cons_of_mem _ hY))
    unfold duF
    split
    · exact jn_ok h (hL X List.mem_cons_self)
    · exact h
theorem duT_ok {s p : Int} {l : List Pr} (hl : l.all okH = true) (a : Pr) : okH (duT s p l a) = true :=
  duK_ok (all_gt' hl _) fun X hX => str_ok hl hX

/-- The windows. -/
def wiF (need : Int) (out : List Pr) (X : St) : List Pr :=
  if X.2.1 < need then out
  else if 0 < out.length ∧ (gt out (out.length - 1)).2 + 1 = X.1.1 then out.set (out.length - 1) ((gt out (out.length - 1)).1, X.1.2) else out ++ [X.1]
def wiK (need : Int) (L : List St) : List Pr := L.foldl (wiF need) []
def wiT (s p : Int) (l : List Pr) (need : Int) : List Pr := wiK need (strs s p l)
theorem wiK_snoc (need : Int) (L : List St) (X : St) : wiK need (L ++ [X]) = wiF need (wiK need L) X := by simp [wiK]
theorem wiF_len (need : Int) (out : List Pr) (X : St) : (wiF need out X).length ≤ out.length + 1 := by
  unfold wiF
  split
  · omega
  · split <;> simp
theorem wiK_len (need : Int) (L : List St) : (wiK need L).length ≤ L.length := by
  have key : ∀ (L : List St) (out : List Pr), (L.foldl (wiF need) out).length ≤ out.length + L.length := by
    intro L
    induction L with
    | nil => intro out; simp
    | cons X L ih => intro out; have h1 := ih (wiF need out X); have h2 := wiF_len need out X; simp only [List.foldl_cons, List.length_cons]; omega
  have := key L []
  simpa [wiK] using this
/-- What the windows of some times are. -/
structure Win (s p : Int) (l : List Pr) (need e : Int) (out : List Pr) : Prop where
  pw : out.Pairwise (fun v w => v.2 + 1 < w.1)
  bd : ∀ v ∈ out, s ≤ v.1 ∧ v.1 ≤ v.2 ∧ v.2 ≤ e
  mem : ∀ x, (∃ v ∈ out, v.1 ≤ x ∧ x ≤ v.2) ↔ (s ≤ x ∧ x ≤ e ∧ need ≤ (At s p l x).1)
theorem gt_last (init : List Pr) (v : Pr) : gt (init ++ [v]) ((init ++ [v]).length - 1) = v := by simp [gt]
theorem set_last (init : List Pr) (v u : Pr) : (init ++ [v]).set ((init ++ [v]).length - 1) u = init ++ [u] := by simp
theorem win_step {s p : Int} {l : List Pr} {need e : Int} {out : List Pr} {X : St} (h : Win s p l need e out) (hse : s - 1 ≤ e) (h1 : X.1.1 = e + 1) (h2 : X.1.1 ≤ X.1.2) (h3 : ∀ x, X.1.1 ≤ x → x ≤ X.1.2 → X.2 = At s p l x) :
    Win s p l need X.1.2 (wiF need out X) := by
  obtain ⟨pw, bd, mem⟩ := h
  unfold wiF
  split
  · next hn =>
    refine ⟨pw, fun v hv => by have := bd v hv; omega, fun x => ?_⟩
    rw [mem]
    constructor
    · rintro ⟨a, b, c⟩; exact ⟨a, by omega, c⟩
    · rintro ⟨a, b, c⟩
      refine ⟨a, ?_, c⟩
      rcases Int.lt_or_le e x with hx | hx
      · rw [← h3 x (by omega) b] at c; omega
      · exact hx
  · next hn =>
    rcases List.eq_nil_or_concat out with rfl | ⟨init, v, rfl⟩
    · rw [if_neg (by simp)]
      refine ⟨by simp, fun v hv => ?_, fun x => ?_⟩
      · simp at hv; subst hv; omega
      · have := mem x
        simp only [List.not_mem_nil, false_and, exists_false, false_iff] at this
        simp only [List.nil_append, List.mem_singleton, exists_eq_left]
        constructor
        · rintro ⟨a, b⟩; rw [← h3 x a b]; omega
        · rintro ⟨a, b, c⟩
          refine ⟨?_, b⟩
          rcases Int.lt_or_le e x with hx | hx
          · omega
          · exact absurd ⟨a, hx, c⟩ this
    · simp only [List.concat_eq_append] at *
      rw [gt_last, set_last]
      rw [List.pairwise_append] at pw
      obtain ⟨p1, p2, p3⟩ := pw
      have bv := bd v (by simp)
      split
      · next hc =>
        refine ⟨List.pairwise_append.2 ⟨p1, by simp, fun a ha b hb => ?_⟩, fun u hu => ?_, fun x => ?_⟩
        · simp at hb; subst hb; exact p3 a ha v (by simp)
        · rcases List.mem_append.1 hu with hu | hu
          · have := bd u (by simp [hu]); omega
          · simp at hu; subst hu; simp only; omega
        · have hm := mem x
          simp only [List.mem_append, List.mem_singleton, or_and_right, exists_or, exists_eq_left] at hm ⊢
          constructor
          · rintro (hh | ⟨a, b⟩)
            · have := hm.1 (.inl hh); exact ⟨this.1, by omega, this.2.2⟩
            · rcases Int.lt_or_le e x with hx | hx
              · refine ⟨by omega, b, ?_⟩
                rw [← h3 x (by omega) b]; omega
              · have := hm.1 (.inr ⟨a, by omega⟩); exact ⟨this.1, by omega, this.2.2⟩
          · rintro ⟨a, b, c⟩
            rcases Int.lt_or_le e x with hx | hx
            · exact .inr ⟨by omega, b⟩
            · rcases hm.2 ⟨a, hx, c⟩ with hh | hh
              · exact .inl hh
              · exact .inr ⟨hh.1, by omega⟩
      · next hc =>
        have hc' : v.2 + 1 < X.1.1 := by
          have : ¬ (v.2 + 1 = X.1.1) := fun h => hc ⟨by simp, h⟩
          omega
        refine ⟨List.pairwise_append.2 ⟨List.pairwise_append.2 ⟨p1, p2, p3⟩, by simp, fun a ha b hb => ?_⟩, fun u hu => ?_, fun x => ?_⟩
        · simp only [List.mem_singleton] at hb; subst hb
          rcases List.mem_append.1 ha with ha | ha
          · have := p3 a ha v (by simp); omega
          · simp at ha; subst ha; exact hc'
        · rcases List.mem_append.1 hu with hu | hu
          · have := bd u hu; omega
          · simp at hu; subst hu; omega
        · have hm := mem x
          constructor
          · rintro ⟨u, hu, a, b⟩
            rcases List.mem_append.1 hu with hu | hu
            · have := hm.1 ⟨u, hu, a, b⟩; exact ⟨this.1, by omega, this.2.2⟩
            · simp at hu; subst hu
              refine ⟨by omega, b, ?_⟩
              rw [← h3 x a b]; omega
          · rintro ⟨a, b, c⟩
            rcases Int.lt_or_le e x with hx | hx
            · exact ⟨X.1, by simp, by omega, b⟩
            · obtain ⟨u, hu, hh⟩ := hm.2 ⟨a, hx, c⟩
              exact ⟨u, List.mem_append.2 (.inl hu), hh⟩
theorem win_K {s p : Int} {l : List Pr} {need : Int} (hp : 0 < p) (n : Nat) : Win s p l need (s + ((n : Int) - 1) * p - (if n = 0 then -(p - 1) else 0)) (wiK need (stK s p l n)) := by
  induction n with
  | zero =>
    rw [if_pos rfl]
    refine ⟨by simp [stK, wiK], by simp [stK, wiK], fun x => ?_⟩
    simp only [stK, wiK, List.foldl_nil, List.not_mem_nil, false_and, exists_false, false_iff]
    have : ((0 : Nat) : Int) - 1 = -1 := rfl
    rw [this, Int.neg_mul, Int.one_mul]
    omega
  | succ n ih =>
    rw [if_neg (by omega)]
    have e1 : (((n + 1 : Nat) : Int) - 1) = n := by omega
    rw [e1]
    have hm := mul_lt (k := n) (n := n) (p := p) (by omega) (by omega) (by omega)
    have hpt : ∀ x, (ptS s p l n).1.1 ≤ x → x ≤ (ptS s p l n).1.2 → (ptS s p l n).2 = At s p l x := (str_at (n := n + 1) hp (stK_mem.2 (.inl ⟨n, by omega, rfl⟩))).2.2.2
    simp only [stK]
    rw [wiK_snoc]
    have eX : s + (n : Int) * p - 0 = (ptS s p l n).1.2 := by simp only [ptS]; omega
    rw [eX]
    rcases Nat.eq_zero_or_pos n with rfl | h0
    · rw [if_pos rfl] at ih
      rw [if_neg (by omega), List.append_nil]
      have e2 : ((0 : Nat) : Int) - 1 = -1 := rfl
      rw [e2, Int.neg_mul, Int.one_mul] at ih
      refine win_step ih (by omega) ?_ (by simp [ptS]) hpt
      simp [ptS]; omega
    · rw [if_neg (by omega)] at ih
      have ek : (n : Int) * p = ((n : Int) - 1) * p + p := by rw [Int.sub_mul]; omega
      have hm2 := mul_lt (k := (n : Int) - 1) (n := n) (p := p) (by omega) (by omega) (by omega)
      split
      · next hc =>
        rw [wiK_snoc]
        have hmd : ∀ x, (mdS s p l n).1.1 ≤ x → x ≤ (mdS s p l n).1.2 → (mdS s p l n).2 = At s p l x := (str_at (n := n + 1) hp (stK_mem.2 (.inr ⟨hc.2, n, h0, by omega, rfl⟩))).2.2.2
        have w1 := win_step (X := mdS s p l n) ih (by omega) (by simp only [mdS]; omega) (by simp only [mdS]; omega) hmd
        exact win_step w1 (by simp only [mdS]; omega) (by simp only [ptS, mdS]; omega) (by simp [ptS]) hpt
      · next hc =>
        rw [List.append_nil]
        have hp1 : p = 1 := by
          rcases Int.lt_or_le 1 p with h | h
          · exact absurd ⟨h0, h⟩ hc
          · omega
        exact win_step ih (by omega) (by simp only [ptS]; omega) (by simp [ptS]) hpt
/-- The windows of a table. -/
theorem win_T {s p : Int} {l : List Pr} (need : Int) (hp : 0 < p) (hl : 0 < l.length) : Win s p l need (laT s p l) (wiT s p l need) := by
  have := win_K (s := s) (l := l) (need := need) hp l.length
  rw [if_neg (by omega), Int.sub_zero] at this
  exact this
theorem pw_three {L : List Pr} (hp : L.Pairwise (fun v w => v.2 + 1 < w.1)) {u v : Pr} (hv : v ∈ L) (hu : u ∈ L) : u = v ∨ v.2 + 1 < u.1 ∨ u.2 + 1 < v.1 := by
  induction L with
  | nil => simp at hv
  | cons x L ih =>
    rw [List.pairwise_cons] at hp
    rcases List.mem_cons.1 hv with e | hv'
    · rcases List.mem_cons.1 hu with e2 | hu'
      · exact .inl (e2.trans e.symm)
      · rw [e]; exact .inr (.inl (hp.1 u hu'))
    · rcases List.mem_cons.1 hu with e2 | hu'
      · rw [e2]; exact .inr (.inr (hp.1 v hv'))
      · exact ih hp.2 hv' hu'
/-- Of windows with gaps one has all of some times. -/
theorem win_one {s p : Int} {l : List Pr} {need e : Int} {out : List Pr} (h : Win s p l need e out) {a b : Int} (hab : a ≤ b) (hin : ∀ x, a ≤ x → x ≤ b → s ≤ x ∧ x ≤ e ∧ need ≤ (At s p l x).1) : ∃ v ∈ out, v.1 ≤ a ∧ b ≤ v.2 := by
  obtain ⟨v, hv, v1, v2⟩ := (h.mem a).2 (hin a (by omega) hab)
  refine ⟨v, hv, v1, ?_⟩
  rcases Int.lt_or_le v.2 b with hb | hb
  · exfalso
    obtain ⟨u, hu, u1, u2⟩ := (h.mem (v.2 + 1)).2 (hin _ (by omega) (by omega))
    have hbd := h.bd v hv
    rcases pw_three h.pw hv hu with rfl | h1 | h1 <;> omega
  · exact hb

/-- The first window that is long enough. -/
def okN (f g : Int) (v : Pr) : Bool := decide (max f v.1 + g ≤ v.2)
def nxT (f g : Int) (W : List Pr) : Option Pr := W.find? (okN f g)
theorem nx_none {f g : Int} {W : List Pr} (h : ∀ i, i < W.length → okN f g (gt W i) = false) : nxT f g W = none := by
  unfold nxT
  rw [List.find?_eq_none]
  intro v hv
  obtain ⟨i, hi, e⟩ := List.mem_iff_getElem.1 hv
  have := h i hi
  unfold gt at this
  rw [List.getD_eq_getElem?_getD, List.getElem?_eq_getElem hi] at this
  rw [← e]
  simp only [Option.getD_some] at this
  rw [this]; simp
theorem nx_some {f g : Int} {W : List Pr} {k : Nat} (hk : k < W.length) (h : ∀ i, i < k → okN f g (gt W i) = false) (h2 : okN f g (gt W k) = true) : nxT f g W = some (gt W k) := by
  induction W generalizing k with
  | nil => simp at hk
  | cons v W ih =>
    unfold nxT
    cases k with
    | zero =>
      have : okN f g v = true := h2
      rw [List.find?_cons, this]; rfl
    | succ k =>
      have h0 : okN f g v = false := h 0 (by omega)
      rw [List.find?_cons, h0]
      exact ih (k := k) (by simpa using hk) (fun i hi => h (i + 1) (by omega)) h2
end Go.Proofs.Ytemogomligbgiaa.Ti
