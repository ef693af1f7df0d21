/- Layer 11: points, pure: a point's number, sorted lists of points, places in them. -/
import Derived.Test.YtldgjahpmlafgaaGreatJVal
namespace Go.Proofs.YtldgjahpmlafgaaGreat
/-- a point -/
structure Pt where
  a : Nat
  b : Nat
  c : Nat
  d : Nat
  ha : a < 2 ^ 128
  hb : b < 2 ^ 128
  hc : c < 2 ^ 128
  hd : d < 2 ^ 128
def pt0 : Pt := ⟨0, 0, 0, 0, by decide, by decide, by decide, by decide⟩
instance : Inhabited Pt := ⟨pt0⟩
theorem Pt.same {p q : Pt} (h1 : p.a = q.a) (h2 : p.b = q.b) (h3 : p.c = q.c) (h4 : p.d = q.d) : p = q := by
  obtain ⟨a, b, c, d, ha, hb, hc, hd⟩ := p
  obtain ⟨a', b', c', d', ha', hb', hc', hd'⟩ := q
  obtain rfl : a = a' := h1
  obtain rfl : b = b' := h2
  obtain rfl : c = c' := h3
  obtain rfl : d = d' := h4
  rfl
/-- a point's number: the order of points is the order of their numbers -/
def Pt.num (p : Pt) : Nat := ((p.a * 2 ^ 128 + p.b) * 2 ^ 128 + p.c) * 2 ^ 128 + p.d
theorem two_eq {x y x' y' : Nat} (hy : y < 2 ^ 128) (hy' : y' < 2 ^ 128) (h : x * 2 ^ 128 + y = x' * 2 ^ 128 + y') : x = x' ∧ y = y' := by omega
theorem Pt.num_inj {p q : Pt} (h : p.num = q.num) : p = q := by
  obtain ⟨h1, h4⟩ := two_eq p.hd q.hd h
  obtain ⟨h1, h3⟩ := two_eq p.hc q.hc h1
  obtain ⟨h1, h2⟩ := two_eq p.hb q.hb h1
  exact Pt.same h1 h2 h3 h4
instance : DecidableEq Pt := fun p q => decidable_of_iff (p.num = q.num) ⟨Pt.num_inj, fun h => by rw [h]⟩
/-- the k-th value of a point -/
def Pt.at (p : Pt) (k : Nat) : Nat := if k = 0 then p.a else if k = 1 then p.b else if k = 2 then p.c else p.d
theorem Pt.at_lt (p : Pt) (k : Nat) : p.at k < 2 ^ 128 := by
  unfold Pt.at
  split
  · exact p.ha
  · split
    · exact p.hb
    · split
      · exact p.hc
      · exact p.hd
def Pt.cells (p : Pt) : List Value := [.int .u64 (hi p.a), .int .u64 (lo p.a), .int .u64 (hi p.b), .int .u64 (lo p.b), .int .u64 (hi p.c), .int .u64 (lo p.c), .int .u64 (hi p.d), .int .u64 (lo p.d)]
theorem Pt.cells_at (p : Pt) (k : Nat) (hk : k < 4) : p.cells[k * 2]? = some (.int .u64 (hi (p.at k))) ∧ p.cells[k * 2 + 1]? = some (.int .u64 (lo (p.at k))) := by
  match k, hk with
  | 0, _ => exact ⟨rfl, rfl⟩
  | 1, _ => exact ⟨rfl, rfl⟩
  | 2, _ => exact ⟨rfl, rfl⟩
  | 3, _ => exact ⟨rfl, rfl⟩
theorem Pt.cells_inj {p q : Pt} (h : p.cells = q.cells) : p = q := by
  unfold Pt.cells at h
  simp only [List.cons.injEq, Value.int.injEq, true_and, and_true] at h
  obtain ⟨h1, h2, h3, h4, h5, h6, h7, h8⟩ := h
  exact Pt.same (hi_inj p.ha q.ha h1 h2) (hi_inj p.hb q.hb h3 h4) (hi_inj p.hc q.hc h5 h6) (hi_inj p.hd q.hd h7 h8)
/-- two points compared value by value from the k-th on -/
def cmpF (p q : Pt) : Nat → Nat → Int
  | 0, _ => 0
  | n + 1, k => if cmp (p.at k) (q.at k) = 0 then cmpF p q n (k + 1) else cmp (p.at k) (q.at k)
def cmpP (p q : Pt) : Int := cmpF p q 4 0
theorem cmp_cases (a b : Nat) : (a = b ∧ cmp a b = 0) ∨ (a < b ∧ cmp a b = -1) ∨ (b < a ∧ cmp a b = 1) := by
  unfold cmp
  by_cases h1 : a = b
  · exact .inl ⟨h1, by rw [if_pos h1]⟩
  · by_cases h2 : a < b
    · exact .inr (.inl ⟨h2, by rw [if_neg h1, if_pos h2]⟩)
    · exact .inr (.inr ⟨by omega, by rw [if_neg h1, if_neg h2]⟩)
theorem cmpF_same (p q : Pt) (n k : Nat) (h : cmp (p.at k) (q.at k) = 0) : cmpF p q (n + 1) k = cmpF p q n (k + 1) := by rw [cmpF, if_pos h]
theorem cmpF_ends (p q : Pt) (n k : Nat) (h : cmp (p.at k) (q.at k) ≠ 0) : cmpF p q (n + 1) k = cmp (p.at k) (q.at k) := by rw [cmpF, if_neg h]
theorem cmp_two {x y x' y' : Nat} (hy : y < 2 ^ 128) (hy' : y' < 2 ^ 128) : cmp (x * 2 ^ 128 + y) (x' * 2 ^ 128 + y') = if cmp x x' = 0 then cmp y y' else cmp x x' := by
  rcases cmp_cases x x' with ⟨h1, h2⟩ | ⟨h1, h2⟩ | ⟨h1, h2⟩
  · rw [h2, if_pos rfl]
    subst h1
    rcases cmp_cases y y' with ⟨h3, h4⟩ | ⟨h3, h4⟩ | ⟨h3, h4⟩
    · rw [h3]; simp [cmp]
    · rw [h4]; unfold cmp; rw [if_neg (by omega), if_pos (by omega)]
    · rw [h4]; unfold cmp; rw [if_neg (by omega), if_neg (by omega)]
  · rw [h2, if_neg (by decide)]; unfold cmp; rw [if_neg (by omega), if_pos (by omega)]
  · rw [h2, if_neg (by decide)]; unfold cmp; rw [if_neg (by omega), if_neg (by omega)]
theorem cmpP_num (p q : Pt) : cmpP p q = cmp p.num q.num := by
  unfold Pt.num
  rw [cmp_two p.hd q.hd, cmp_two p.hc q.hc, cmp_two p.hb q.hb]
  show (if cmp p.a q.a = 0 then (if cmp p.b q.b = 0 then (if cmp p.c q.c = 0 then (if cmp p.d q.d = 0 then 0 else cmp p.d q.d) else cmp p.c q.c) else cmp p.b q.b) else cmp p.a q.a) = _
  by_cases h1 : cmp p.a q.a = 0 <;> by_cases h2 : cmp p.b q.b = 0 <;> by_cases h3 : cmp p.c q.c = 0 <;> by_cases h4 : cmp p.d q.d = 0 <;> simp [h1, h2, h3, h4]
theorem cmpP_lt (p q : Pt) : cmpP p q < 0 ↔ p.num < q.num := by
  rw [cmpP_num]
  rcases cmp_cases p.num q.num with ⟨h1, h2⟩ | ⟨h1, h2⟩ | ⟨h1, h2⟩ <;> rw [h2] <;> omega
/-- ascending -/
def Asc (l : List Pt) : Prop := l.Pairwise fun x y => x.num < y.num
/-- the place of p: how many stand ahead of it -/
def plc (p : Pt) : List Pt → Nat
  | [] => 0
  | x :: r => if x.num < p.num then plc p r + 1 else 0
theorem plc_le (p : Pt) : ∀ l, plc p l ≤ l.length
  | [] => Nat.le_refl _
  | x :: r => by
    unfold plc
    have := plc_le p r
    split <;> simp <;> omega
theorem plc_before (p : Pt) : ∀ (l : List Pt) (i : Nat) (x : Pt), i < plc p l → l[i]? = some x → x.num < p.num
  | [], _, _, h, _ => by simp [plc] at h
  | y :: r, i, x, h, hx => by
    unfold plc at h
    split at h
    · cases i with
      | zero => simp at hx; subst hx; assumption
      | succ i => exact plc_before p r i x (by omega) (by simpa using hx)
    · omega
theorem plc_stop (p : Pt) : ∀ (l : List Pt) (i : Nat) (x : Pt), i = plc p l → l[i]? = some x → ¬ x.num < p.num
  | [], _, _, _, hx => by simp at hx
  | y :: r, i, x, h, hx => by
    unfold plc at h
    split at h
    · subst h
      exact plc_stop p r _ x rfl (by simpa using hx)
    · subst h
      simp at hx; subst hx; assumption
/-- the first place at which no smaller one stands is the place -/
theorem plc_eq (p : Pt) : ∀ (l : List Pt) (i : Nat), i ≤ l.length → (∀ j x, j < i → l[j]? = some x → x.num < p.num) → (∀ x, l[i]? = some x → ¬ x.num < p.num) → i = plc p l
  | [], i, h, _, _ => by simp at h; simp [plc, h]
  | y :: r, i, h, h1, h2 => by
    unfold plc
    cases i with
    | zero => rw [if_neg (h2 y (by simp))]
    | succ i =>
      rw [if_pos (h1 0 y (by omega) (by simp))]
      have := plc_eq p r i (by simpa using h) (fun j x hj hx => h1 (j + 1) x (by omega) (by simpa using hx)) (fun x hx => h2 x (by simpa using hx))
      omega
theorem Asc.tail {x : Pt} {r : List Pt} (h : Asc (x :: r)) : Asc r := (List.pairwise_cons.1 h).2
theorem Asc.head {x : Pt} {r : List Pt} (h : Asc (x :: r)) : ∀ y ∈ r, x.num < y.num := (List.pairwise_cons.1 h).1
/-- at its place stands the point itself, or it is not there -/
theorem plc_mem (p : Pt) : ∀ (l : List Pt), Asc l → (l[plc p l]? = some p ↔ p ∈ l)
  | [], _ => by simp [plc]
  | y :: r, h => by
    unfold plc
    split
    · rename_i hlt
      rw [List.getElem?_cons_succ, plc_mem p r h.tail]
      constructor
      · exact fun hp => List.mem_cons_of_mem _ hp
      · intro hp
        rcases List.mem_cons.1 hp with e | hp
        · subst e; omega
        · exact hp
    · rename_i hge
      constructor
      · intro hp; simp at hp; subst hp; exact List.mem_cons_self
      · intro hp
        rcases List.mem_cons.1 hp with e | hp
        · subst e; simp
        · have := h.head p hp; omega
def putL (p : Pt) (l : List Pt) : List Pt := l.take (plc p l) ++ p :: l.drop (plc p l)
def remL (p : Pt) (l : List Pt) : List Pt := l.take (plc p l) ++ l.drop (plc p l + 1)
theorem putL_cons (p x : Pt) (r : List Pt) : putL p (x :: r) = if x.num < p.num then x :: putL p r else p :: x :: r := by
  unfold putL
  by_cases h : x.num < p.num
  · rw [if_pos h, show plc p (x :: r) = plc p r + 1 by rw [plc, if_pos h]]; rfl
  · rw [if_neg h, show plc p (x :: r) = 0 by rw [plc, if_neg h]]; rfl
theorem remL_cons (p x : Pt) (r : List Pt) : remL p (x :: r) = if x.num < p.num then x :: remL p r else r := by
  unfold remL
  by_cases h : x.num < p.num
  · rw [if_pos h, show plc p (x :: r) = plc p r + 1 by rw [plc, if_pos h]]; rfl
  · rw [if_neg h, show plc p (x :: r) = 0 by rw [plc, if_neg h]]; rfl
theorem putL_mem (p q : Pt) : ∀ l, (q ∈ putL p l ↔ q = p ∨ q ∈ l)
  | [] => by simp [putL, plc]
  | x :: r => by
    rw [putL_cons]
    split
    · rw [List.mem_cons, putL_mem p q r, List.mem_cons]
      constructor
      · rintro (h | h | h)
        · exact .inr (.inl h)
        · exact .inl h
        · exact .inr (.inr h)
      · rintro (h | h | h)
        · exact .inr (.inl h)
        · exact .inl h
        · exact .inr (.inr h)
    · rw [List.mem_cons]
theorem putL_len (p : Pt) (l : List Pt) : (putL p l).length = l.length + 1 := by
  have := plc_le p l
  simp [putL]; omega
theorem putL_asc (p : Pt) : ∀ l, Asc l → p ∉ l → Asc (putL p l)
  | [], _, _ => by simp [putL, plc, Asc]
  | x :: r, h, hp => by
    rw [putL_cons]
    have hne : x.num ≠ p.num := fun e => hp (by rw [Pt.num_inj e]; exact List.mem_cons_self)
    split
    · rename_i hlt
      refine List.pairwise_cons.2 ⟨fun y hy => ?_, putL_asc p r h.tail fun hm => hp (List.mem_cons_of_mem _ hm)⟩
      rcases (putL_mem p y r).1 hy with e | hy
      · rw [e]; exact hlt
      · exact h.head y hy
    · refine List.pairwise_cons.2 ⟨fun y hy => ?_, h⟩
      rcases List.mem_cons.1 hy with e | hy
      · rw [e]; omega
      · have := h.head y hy; omega
theorem remL_mem (p q : Pt) : ∀ l, Asc l → p ∈ l → (q ∈ remL p l ↔ q ∈ l ∧ q ≠ p)
  | [], _, hp => by cases hp
  | x :: r, h, hp => by
    rw [remL_cons]
    split
    · rename_i hlt
      have hpr : p ∈ r := by
        rcases List.mem_cons.1 hp with e | hp
        · subst e; omega
        · exact hp
      rw [List.mem_cons, remL_mem p q r h.tail hpr, List.mem_cons]
      constructor
      · rintro (e | ⟨h1, h2⟩)
        · exact ⟨.inl e, fun e2 => by rw [← e, e2] at hlt; omega⟩
        · exact ⟨.inr h1, h2⟩
      · rintro ⟨e | h1, h2⟩
        · exact .inl e
        · exact .inr ⟨h1, h2⟩
    · rename_i hge
      have hx : x = p := by
        rcases List.mem_cons.1 hp with e | hp
        · exact e.symm
        · have := h.head p hp; omega
      subst hx
      rw [List.mem_cons]
      constructor
      · intro hq; exact ⟨.inr hq, fun e => by have := h.head q hq; rw [e] at this; omega⟩
      · rintro ⟨e | hq, h2⟩
        · exact absurd e h2
        · exact hq
theorem remL_asc (p : Pt) : ∀ l, Asc l → Asc (remL p l)
  | [], h => by simp [remL, plc, Asc]
  | x :: r, h => by
    rw [remL_cons]
    split
    · refine List.pairwise_cons.2 ⟨fun y hy => h.head y ?_, remL_asc p r h.tail⟩
      unfold remL at hy
      rcases List.mem_append.1 hy with h1 | h1
      · exact List.mem_of_mem_take h1
      · exact List.mem_of_mem_drop h1
    · exact h.tail
theorem remL_len (p : Pt) (l : List Pt) (h : Asc l) (hp : p ∈ l) : (remL p l).length + 1 = l.length := by
  have hm := (plc_mem p l h).2 hp
  have hl : plc p l < l.length := (List.getElem?_eq_some_iff.1 hm).1
  simp [remL]; omega
theorem Asc.nodup {l : List Pt} (h : Asc l) : l.Nodup := List.Pairwise.imp (fun {x y} hxy e => by rw [e] at hxy; omega) h
/-- one ascending list alone holds just these points -/
theorem asc_ext : ∀ {l m : List Pt}, Asc l → Asc m → (∀ q, q ∈ l ↔ q ∈ m) → l = m
  | [], [], _, _, _ => rfl
  | [], y :: s, _, _, h => by have := (h y).2 List.mem_cons_self; cases this
  | x :: r, [], _, _, h => by have := (h x).1 List.mem_cons_self; cases this
  | x :: r, y :: s, hl, hm, h => by
    have e : x = y := by
      rcases List.mem_cons.1 ((h x).1 List.mem_cons_self) with e | h1
      · exact e
      · rcases List.mem_cons.1 ((h y).2 List.mem_cons_self) with e | h2
        · exact e.symm
        · have := hm.head x h1; have := hl.head y h2; omega
    subst e
    rw [asc_ext hl.tail hm.tail fun q => ?_]
    constructor
    · intro hq
      rcases List.mem_cons.1 ((h q).1 (List.mem_cons_of_mem _ hq)) with e | h1
      · have := hl.head q hq; rw [e] at this; omega
      · exact h1
    · intro hq
      rcases List.mem_cons.1 ((h q).2 (List.mem_cons_of_mem _ hq)) with e | h1
      · have := hm.head q hq; rw [e] at this; omega
      · exact h1
end Go.Proofs.YtldgjahpmlafgaaGreat
