/- Layer 12: the reference's sorted list of prefixes: pure, in memory; New, prefix, place. -/
import Derived.Test.YtmlocfojmncghaaUEmp
import Derived.Test.YtmlocfojmncghaaQApp
import Derived.Test.YtmlocfojmncghaaCmp
namespace Go.Proofs.Ytmlocfojmncghaa
open Go.RowKit
/-- a prefix with its number -/
structure PE where
  v : Nat
  n : Nat
  id : Int
def PE.lt (a b : PE) : Prop := a.v < b.v ∨ (a.v = b.v ∧ a.n < b.n)
def AscE (L : List PE) : Prop := L.Pairwise PE.lt
/-- the entry is less than (v, n) -/
def lsE (v : Nat) (n : Int) (e : PE) : Bool := decide (e.v < v ∨ (e.v = v ∧ (e.n : Int) < n))
def isE (v : Nat) (n : Int) (e : PE) : Bool := decide (e.v = v) && decide ((e.n : Int) = n)
def plcE (v : Nat) (n : Int) (L : List PE) : Nat := (L.takeWhile (lsE v n)).length
def hereE (v : Nat) (n : Int) (L : List PE) : Bool := L.any (isE v n)
def putE (v n : Nat) (id : Int) (L : List PE) : List PE := L.take (plcE v n L) ++ ⟨v, n, id⟩ :: L.drop (plcE v n L)
def remE (v n : Nat) (L : List PE) : List PE := L.take (plcE v n L) ++ L.drop (plcE v n L + 1)
theorem isE_iff (v : Nat) (n : Int) (e : PE) : isE v n e = true ↔ e.v = v ∧ (e.n : Int) = n := by simp [isE]
theorem lsE_iff (v : Nat) (n : Int) (e : PE) : lsE v n e = true ↔ (e.v < v ∨ (e.v = v ∧ (e.n : Int) < n)) := by simp [lsE]
theorem plcE_le (v : Nat) (n : Int) (L : List PE) : plcE v n L ≤ L.length := (List.takeWhile_prefix _).length_le
theorem plcE_eq (v : Nat) (n : Int) : ∀ (L : List PE) (k : Nat), k ≤ L.length → (∀ j x, j < k → L[j]? = some x → lsE v n x = true) → (∀ x, L[k]? = some x → lsE v n x = false) → k = plcE v n L
  | [], k, hk, _, _ => by simp at hk; subst hk; rfl
  | x :: r, 0, _, _, h2 => by
    have := h2 x rfl
    unfold plcE
    rw [List.takeWhile_cons, this]; rfl
  | x :: r, k + 1, hk, h1, h2 => by
    have h := h1 0 x (by omega) rfl
    unfold plcE
    rw [List.takeWhile_cons, h, if_pos rfl, List.length_cons]
    have := plcE_eq v n r k (by simpa using hk) (fun j y hj hy => h1 (j + 1) y (by omega) (by simpa using hy)) (fun y hy => h2 y (by simpa using hy))
    unfold plcE at this
    omega
theorem twE (p : PE → Bool) : ∀ (L : List PE) (x : PE), x ∈ L.takeWhile p → p x = true
  | [], x, h => by simp at h
  | y :: r, x, h => by
    rw [List.takeWhile_cons] at h
    cases hy : p y with
    | true =>
      rw [hy, if_pos rfl, List.mem_cons] at h
      rcases h with h | h
      · rw [h]; exact hy
      · exact twE p r x h
    | false => rw [hy] at h; simp at h
theorem lsE_take (v : Nat) (n : Int) (L : List PE) {j : Nat} {x : PE} (hj : j < plcE v n L) (hx : L[j]? = some x) : lsE v n x = true := by
  have h1 : (L.takeWhile (lsE v n))[j]? = some x := by
    have h2 : L.takeWhile (lsE v n) <+: L := List.takeWhile_prefix _
    obtain ⟨r, hr⟩ := h2
    rw [← hr, List.getElem?_append_left hj] at hx
    exact hx
  exact twE _ _ _ (List.mem_of_getElem? h1)
theorem lsE_at (v : Nat) (n : Int) : ∀ (L : List PE) (x : PE), L[plcE v n L]? = some x → lsE v n x = false
  | [], x, h => by simp at h
  | y :: r, x, h => by
    unfold plcE at h
    rw [List.takeWhile_cons] at h
    cases hy : lsE v n y with
    | true =>
      rw [hy, if_pos rfl, List.length_cons, List.getElem?_cons_succ] at h
      exact lsE_at v n r x h
    | false =>
      rw [hy] at h
      simp at h
      rw [← h]; exact hy
theorem PE.lt_tr {a b c : PE} (h : a.lt b) (k : b.lt c) : a.lt c := by unfold PE.lt at *; omega
theorem lt_lsE {a b : PE} {v : Nat} {n : Int} (h : a.lt b) (hb : lsE v n b = true) : lsE v n a = true := by
  rw [lsE_iff] at *
  unfold PE.lt at h
  omega
/-- behind the place nothing is less -/
theorem lsE_drop {v : Nat} {n : Int} {L : List PE} (ha : AscE L) {j : Nat} {x : PE} (hj : plcE v n L ≤ j) (hx : L[j]? = some x) : lsE v n x = false := by
  rcases Nat.eq_or_lt_of_le hj with e | hj
  · subst e; exact lsE_at v n L x hx
  · cases h : lsE v n x with
    | false => rfl
    | true =>
      have hl : j < L.length := (List.getElem?_eq_some_iff.1 hx).1
      obtain ⟨y, hy⟩ : ∃ y, L[plcE v n L]? = some y := ⟨_, List.getElem?_eq_getElem (by omega)⟩
      have h1 := lsE_at v n L y hy
      have h2 : y.lt x := by
        have := List.pairwise_iff_getElem.1 ha (plcE v n L) j (by omega) hl hj
        rw [(List.getElem?_eq_some_iff.1 hy).2, (List.getElem?_eq_some_iff.1 hx).2] at this
        exact this
      rw [lt_lsE h2 h] at h1; cases h1
theorem is_ls {v : Nat} {n : Int} {e : PE} (h : isE v n e = true) : lsE v n e = false := by
  rw [isE_iff] at h
  cases hl : lsE v n e with
  | false => rfl
  | true => rw [lsE_iff] at hl; omega
theorem here_at {v : Nat} {n : Int} {L : List PE} (ha : AscE L) {x : PE} (hx : L[plcE v n L]? = some x) : hereE v n L = isE v n x := by
  cases h : isE v n x with
  | true => exact List.any_eq_true.2 ⟨x, List.mem_of_getElem? hx, h⟩
  | false =>
    refine List.any_eq_false.2 fun y hy hy2 => ?_
    obtain ⟨j, hj⟩ := List.mem_iff_getElem?.1 hy
    have h1 : ¬ j < plcE v n L := fun hl => by
      have := lsE_take v n L hl hj
      rw [is_ls hy2] at this; cases this
    rcases Nat.eq_or_lt_of_le (Nat.le_of_not_lt h1) with e | hl
    · rw [← e, hx] at hj
      rw [← Option.some.inj hj, h] at hy2; cases hy2
    · have hjl : j < L.length := (List.getElem?_eq_some_iff.1 hj).1
      have h2 : x.lt y := by
        have := List.pairwise_iff_getElem.1 ha (plcE v n L) j (by omega) hjl hl
        rw [(List.getElem?_eq_some_iff.1 hx).2, (List.getElem?_eq_some_iff.1 hj).2] at this
        exact this
      have h3 := lsE_at v n L x hx
      have h4 : ¬ (x.v < v ∨ (x.v = v ∧ (x.n : Int) < n)) := fun h => by rw [(lsE_iff v n x).2 h] at h3; cases h3
      rw [isE_iff] at hy2
      have h5 : ¬ (x.v = v ∧ (x.n : Int) = n) := fun h6 => by rw [(isE_iff v n x).2 h6] at h; cases h
      unfold PE.lt at h2
      omega
theorem here_out {v : Nat} {n : Int} {L : List PE} (h : plcE v n L = L.length) : hereE v n L = false := by
  refine List.any_eq_false.2 fun y hy hy2 => ?_
  obtain ⟨j, hj⟩ := List.mem_iff_getElem?.1 hy
  have := lsE_take v n L (by rw [h]; exact (List.getElem?_eq_some_iff.1 hj).1) hj
  rw [is_ls hy2] at this; cases this
theorem here_lt {v : Nat} {n : Int} {L : List PE} (ha : AscE L) (h : hereE v n L = true) : ∃ e, L[plcE v n L]? = some e ∧ e.v = v ∧ (e.n : Int) = n ∧ plcE v n L < L.length := by
  rcases Nat.lt_or_ge (plcE v n L) L.length with hl | hl
  · have hx := List.getElem?_eq_getElem hl
    rw [here_at ha hx] at h
    obtain ⟨h1, h2⟩ := (isE_iff _ _ _).1 h
    exact ⟨_, hx, h1, h2, hl⟩
  · rw [here_out (Nat.le_antisymm (plcE_le v n L) hl)] at h; cases h
theorem here_iff {v : Nat} {n : Int} {L : List PE} : hereE v n L = true ↔ ∃ e ∈ L, e.v = v ∧ (e.n : Int) = n := by
  unfold hereE
  rw [List.any_eq_true]
  exact ⟨fun ⟨e, h1, h2⟩ => ⟨e, h1, (isE_iff _ _ _).1 h2⟩, fun ⟨e, h1, h2⟩ => ⟨e, h1, (isE_iff _ _ _).2 h2⟩⟩
theorem putE_len (v n : Nat) (id : Int) (L : List PE) : (putE v n id L).length = L.length + 1 := by
  have := plcE_le v n L
  unfold putE
  simp only [List.length_append, List.length_cons, List.length_take, List.length_drop]
  omega
theorem putE_mem (v n : Nat) (id : Int) (L : List PE) (e : PE) : e ∈ putE v n id L ↔ e = ⟨v, n, id⟩ ∨ e ∈ L := by
  unfold putE
  rw [List.mem_append, List.mem_cons]
  conv => rhs; rw [← List.take_append_drop (plcE v n L) L, List.mem_append]
  constructor
  · rintro (h | h | h)
    · exact .inr (.inl h)
    · exact .inl h
    · exact .inr (.inr h)
  · rintro (h | h | h)
    · exact .inr (.inl h)
    · exact .inl h
    · exact .inr (.inr h)
theorem take_ls {v : Nat} {n : Int} {L : List PE} {e : PE} (h : e ∈ L.take (plcE v n L)) : lsE v n e = true := by
  obtain ⟨j, hj⟩ := List.mem_iff_getElem?.1 h
  have hl := (List.getElem?_eq_some_iff.1 hj).1
  rw [List.length_take] at hl
  rw [List.getElem?_take, if_pos (by omega)] at hj
  exact lsE_take v n L (by omega) hj
theorem drop_ls {v : Nat} {n : Int} {L : List PE} (ha : AscE L) {k : Nat} {e : PE} (h : e ∈ L.drop (plcE v n L + k)) : lsE v n e = false := by
  obtain ⟨j, hj⟩ := List.mem_iff_getElem?.1 h
  rw [List.getElem?_drop] at hj
  exact lsE_drop ha (by omega) hj
theorem putE_asc {v n : Nat} (id : Int) {L : List PE} (ha : AscE L) (hn : hereE v n L = false) : AscE (putE v n id L) := by
  unfold putE AscE
  refine List.pairwise_append.2 ⟨ha.sublist (List.take_sublist _ _), List.pairwise_cons.2 ⟨fun e he => ?_, ha.sublist (List.drop_sublist _ _)⟩, fun a hal b hb => ?_⟩
  · have h1 := drop_ls (k := 0) ha he
    have h2 : ¬ (e.v = v ∧ (e.n : Int) = n) := fun h => by
      have := here_iff.2 ⟨e, List.mem_of_mem_drop he, h⟩
      rw [hn] at this; cases this
    have h3 : ¬ (e.v < v ∨ (e.v = v ∧ (e.n : Int) < n)) := fun h => by rw [(lsE_iff v n e).2 h] at h1; cases h1
    show v < e.v ∨ (v = e.v ∧ n < e.n)
    omega
  · rcases List.mem_cons.1 hb with e | hb
    · subst e
      have := (lsE_iff _ _ _).1 (take_ls hal)
      show a.v < v ∨ (a.v = v ∧ a.n < n)
      omega
    · have := List.pairwise_append.1 (by rw [List.take_append_drop]; exact ha : List.Pairwise PE.lt (L.take (plcE v n L) ++ L.drop (plcE v n L)))
      exact this.2.2 a hal b hb
theorem remE_asc {v n : Nat} {L : List PE} (ha : AscE L) : AscE (remE v n L) := by
  unfold remE
  rw [← List.eraseIdx_eq_take_drop_succ]
  exact ha.sublist (List.eraseIdx_sublist _ _)
theorem remE_len {v n : Nat} {L : List PE} (ha : AscE L) (hh : hereE v n L = true) : (remE v n L).length = L.length - 1 := by
  obtain ⟨e, h1, h2, h3, h4⟩ := here_lt ha hh
  unfold remE
  simp only [List.length_append, List.length_take, List.length_drop]
  omega
theorem remE_mem {v n : Nat} {L : List PE} (ha : AscE L) (hh : hereE v n L = true) (e : PE) : e ∈ remE v n L ↔ e ∈ L ∧ ¬ (e.v = v ∧ e.n = n) := by
  obtain ⟨x, h1, h2, h3, h4⟩ := here_lt ha hh
  have hL : L = L.take (plcE v n L) ++ x :: L.drop (plcE v n L + 1) := by
    conv => lhs; rw [← List.take_append_drop (plcE v n L) L, List.drop_eq_getElem_cons h4]
    rw [(List.getElem?_eq_some_iff.1 h1).2]
  unfold remE
  rw [List.mem_append]
  constructor
  · rintro (h | h)
    · refine ⟨List.mem_of_mem_take h, fun h5 => ?_⟩
      have := (lsE_iff _ _ _).1 (take_ls h)
      omega
    · refine ⟨List.mem_of_mem_drop h, fun h5 => ?_⟩
      obtain ⟨j, hj⟩ := List.mem_iff_getElem?.1 h
      rw [List.getElem?_drop] at hj
      have := List.pairwise_iff_getElem.1 ha (plcE v n L) (plcE v n L + 1 + j) h4 (List.getElem?_eq_some_iff.1 hj).1 (by omega)
      rw [(List.getElem?_eq_some_iff.1 h1).2, (List.getElem?_eq_some_iff.1 hj).2] at this
      unfold PE.lt at this
      omega
  · rintro ⟨h, h5⟩
    rw [hL, List.mem_append, List.mem_cons] at h
    rcases h with h | h | h
    · exact .inl h
    · subst h; exact absurd ⟨h2, by omega⟩ h5
    · exact .inr h
/-- the cells of an entry -/
def PE.cells (e : PE) : List Value := [.int .u64 (hi e.v), .int .u64 (lo e.v), .int .i64 e.n, .int .i64 e.id]
def rowE (L : List PE) : List Value := L.flatMap PE.cells
theorem rowE_len : ∀ (L : List PE), (rowE L).length = L.length * 4
  | [] => rfl
  | x :: r => by
    show (x.cells ++ rowE r).length = _
    rw [List.length_append, rowE_len r, List.length_cons]
    show 4 + _ = _
    omega
theorem rowE_app (l m : List PE) : rowE (l ++ m) = rowE l ++ rowE m := by simp [rowE]
theorem rowE_get : ∀ (L : List PE) (i j : Nat) (e : PE), L[i]? = some e → j < 4 → (rowE L)[i * 4 + j]? = e.cells[j]?
  | [], i, j, e, h, _ => by simp at h
  | x :: r, i, j, e, h, hj => by
    show (x.cells ++ rowE r)[i * 4 + j]? = _
    cases i with
    | zero =>
      simp at h; subst h
      rw [List.getElem?_append_left (by show _ < 4; omega)]; simp
    | succ i =>
      rw [List.getElem?_append_right (by show 4 ≤ _; omega), show (i + 1) * 4 + j - x.cells.length = i * 4 + j by show _ - 4 = _; omega]
      exact rowE_get r i j e (by simpa using h) hj
theorem rowE_one (L : List PE) : ∀ u ∈ rowE L, u.oneCell' = true := fun u hu => by
  obtain ⟨e, _, h⟩ := List.mem_flatMap.1 hu
  simp only [PE.cells, List.mem_cons, List.not_mem_nil, or_false] at h
  rcases h with h | h | h | h <;> rw [h] <;> rfl
def RowsE (w : World) (A : Option Addr) (L : List PE) : Prop := L = [] ∨ ∃ g, A = some ⟨g, 0, none⟩ ∧ g < w.heap.size ∧ ∀ i e, L[i]? = some e → ∀ j, j < 4 → w.cell? ⟨g, i * 4 + j, none⟩ = e.cells[j]?
theorem RowsE.below {w w' : World} {A : Option Addr} {L : List PE} (h : RowsE w A L) (hb : Below w.heap.size w w') : RowsE w' A L := by
  rcases h with h | ⟨g, h1, h2, h3⟩
  · exact .inl h
  · exact .inr ⟨g, h1, Nat.lt_of_lt_of_le h2 hb.size, fun i e he j hj => by rw [hb.cell (p := ⟨g, _, none⟩) h2]; exact h3 i e he j hj⟩
theorem rowsE_own {w : World} {base n : Nat} {T : TypeId} {A : Option Addr} {cap : Nat} {L : List PE} (h : w.ownsRow base T 4 (.slice A n cap) n (rowE L)) (hn : L.length = n) : RowsE w A L ∧ n ≤ cap := by
  rcases h.2 with ⟨e0, e1⟩ | ⟨g, cap', cur, e0, hb, hg, hc, _⟩
  · exact ⟨.inl (List.length_eq_zero_iff.1 (by omega)), by omega⟩
  · injection e0 with e1 _ e3
    subst e1; subst e3
    refine ⟨.inr ⟨g, rfl, (Array.getElem?_eq_some_iff.1 hg).1, fun i e he j hj => ?_⟩, hc⟩
    have hi : i < L.length := (List.getElem?_eq_some_iff.1 he).1
    rw [World.ownsRow.cellAt h (i * 4 + j) (by omega), rowE_get L i j e he hj]
/-- the reference's trie in memory: a box with the bits and an ascending row -/
structure RE (w : World) (Y bits : Nat) (A : Option Addr) (n cap : Nat) (L : List PE) : Prop where
  asc : AscE L
  ok : ∀ e ∈ L, e.v < 2 ^ 128 ∧ e.n ≤ 128
  len : L.length = n
  room : n ≤ cap
  lt : Y < w.heap.size
  froz : w.frozen? ⟨Y, 1, none⟩ = false
  b : w.cell? ⟨Y, 0, none⟩ = some (.int .i64 bits)
  c : w.cell? ⟨Y, 1, none⟩ = some (.slice A n cap)
  nil : (A = none ∧ cap = 0) ∨ ∃ g, A = some ⟨g, 0, none⟩
  row : RowsE w A L
/-- it lies in its box and its row -/
theorem RE.aside {w w' : World} {Y bits n cap : Nat} {A : Option Addr} {L : List PE} (h : RE w Y bits A n cap L) (hs : w.heap.size ≤ w'.heap.size) (hY : w'.heap[Y]? = w.heap[Y]?) (hA : ∀ g, A = some ⟨g, 0, none⟩ → L ≠ [] → w'.heap[g]? = w.heap[g]?) : RE w' Y bits A n cap L :=
  ⟨h.asc, h.ok, h.len, h.room, Nat.lt_of_lt_of_le h.lt hs, by rw [World.frozen?_of_block (a := ⟨Y, 1, none⟩) hY]; exact h.froz, by rw [World.cell?_of_block (a := ⟨Y, 0, none⟩) hY]; exact h.b, by rw [World.cell?_of_block (a := ⟨Y, 1, none⟩) hY]; exact h.c, h.nil, by
    rcases h.row with e | ⟨g, e, h2, h3⟩
    · exact .inl e
    · by_cases hL : L = []
      · exact .inl hL
      · exact .inr ⟨g, e, Nat.lt_of_lt_of_le h2 hs, fun i x hx j hj => by rw [World.cell?_of_block (a := ⟨g, _, none⟩) (hA g e hL)]; exact h3 i x hx j hj⟩⟩
theorem RE.rowlt {w : World} {Y bits n cap g o : Nat} {A : Option Addr} {L : List PE} (h : RE w Y bits A n cap L) (hA : A = some ⟨g, o, none⟩) (hL : L ≠ []) : g < w.heap.size := by
  rcases h.row with e | ⟨g', e, h2, _⟩
  · exact absurd e hL
  · rw [hA] at e; injection e with e; injection e with e; omega
theorem RE.below {w w' : World} {Y bits n cap : Nat} {A : Option Addr} {L : List PE} (h : RE w Y bits A n cap L) (hb : Below w.heap.size w w') : RE w' Y bits A n cap L :=
  ⟨h.asc, h.ok, h.len, h.room, Nat.lt_of_lt_of_le h.lt hb.size, by rw [World.frozen?_of_block (a := ⟨Y, 1, none⟩) (hb.block Y h.lt)]; exact h.froz, by rw [hb.cell (p := ⟨Y, 0, none⟩) h.lt]; exact h.b, by rw [hb.cell (p := ⟨Y, 1, none⟩) h.lt]; exact h.c, h.nil, h.row.below hb⟩
end Go.Proofs.Ytmlocfojmncghaa
