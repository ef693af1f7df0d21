/- Layer 12: what the laws of tries use: a trie beside rows; the calls that are kept; append. -/
import Derived.Test.YtmlocfojmncghaaULaw
import Derived.Test.YtmlocfojmncghaaJRead
import Derived.Maps.AppendAt
namespace Go.Proofs.Ytmlocfojmncghaa
open Go.RowKit
def opK (q : UOp) (b : Nat) : Option Pth := keyU b (pfV q b) (pfN q b)
/-- a trie of the law: its blocks lie at Fb, or behind the world wb -/
structure TI (wb : World) (Fb : Nat → Prop) (W : World) (X bits : Nat) (m : Pth → Option Int) (G : Nat) (F : Nat → Prop) : Prop where
  s : TrieS W X bits F m G
  sub : ∀ j, F j → Fb j ∨ wb.heap.size ≤ j
  fr : FrU Fb wb W
theorem TI.start {w : World} {X bits G : Nat} {F : Nat → Prop} {m : Pth → Option Int} (h : TrieS w X bits F m G) : TI w F w X bits m G F := ⟨h, fun _ h => .inl h, FrU.refl _ _⟩
theorem TI.below {wb : World} {Fb : Nat → Prop} {W W' : World} {X bits : Nat} {m : Pth → Option Int} {G : Nat} {F : Nat → Prop} (h : TI wb Fb W X bits m G F) (hb : Below W.heap.size W W') : TI wb Fb W' X bits m G F := ⟨h.s.below hb, h.sub, h.fr.trans (FrU.of_below hb (F := Fb)) fun _ h => .inl h⟩
theorem TI.left {wb : World} {Fb : Nat → Prop} {W W' : World} {X bits : Nat} {m m' : Pth → Option Int} {G G' : Nat} {F : Nat → Prop} (h : TI wb Fb W X bits m G F) (hl : LeftU W W' X bits F m' G') : ∃ F', TI wb Fb W' X bits m' G' F' ∧ (∀ j, F' j → F j ∨ W.heap.size ≤ j) ∧ FrU F W W' := by
  obtain ⟨⟨F', h1, h2⟩, h3⟩ := hl
  exact ⟨F', ⟨h1, fun j hj => by
    rcases h2 j hj with h4 | h4
    · exact h.sub j h4
    · exact .inr (Nat.le_trans h.fr.size h4.1), h.fr.trans h3 h.sub⟩, fun j hj => (h2 j hj).imp (fun h => h) (fun h => h.1), h3⟩
theorem TI.grown {wb : World} {Fb : Nat → Prop} {W W' : World} {X bits : Nat} {m : Pth → Option Int} {G : Nat} {F : Nat → Prop} {row : Option Nat} (h : TI wb Fb W X bits m G F) (hg : W.grownBy W' row) (hr : ∀ g, row = some g → wb.heap.size ≤ g ∧ ¬ F g) : TI wb Fb W' X bits m G F :=
  ⟨h.s.aside hg.size fun j hj => hg.block j (h.s.lt j hj) fun e => (hr j e.symm).2 hj, h.sub, ⟨hg.os.trans h.fr.os, hg.tape.trans h.fr.tape, hg.output.trans h.fr.output, Nat.le_trans h.fr.size hg.size, fun j hj hn => (hg.block j (Nat.lt_of_lt_of_le hj h.fr.size) fun e => by have := (hr j e.symm).1; omega).trans (h.fr.block j hj hn)⟩⟩
theorem own_frU {W W' : World} {F : Nat → Prop} {base n sz : Nat} {e : TypeId} {v : Value} {xs : List Value} (h : W.ownsRow base e sz v n xs) (hf : FrU F W W') (hn : ∀ g, v.ownBlock = some g → ¬ F g) : W'.ownsRow base e sz v n xs := by
  refine ⟨h.1, ?_⟩
  rcases h.2 with h0 | ⟨g, cap, cur, rfl, h1, hg, rest⟩
  · exact .inl h0
  · exact .inr ⟨g, cap, cur, rfl, h1, (hf.block g (heap_ltU hg) (hn g rfl)).trans hg, rest⟩
theorem own_belowU {W W' : World} {base n sz : Nat} {e : TypeId} {v : Value} {xs : List Value} (h : W.ownsRow base e sz v n xs) (hb : Below W.heap.size W W') : W'.ownsRow base e sz v n xs := own_frU (F := fun _ => False) h (FrU.of_below hb) fun _ _ h => h
theorem own_shapeU {w : World} {base : Nat} {e : TypeId} {sz : Nat} {v : Value} {n : Nat} {xs : List Value} (h : w.ownsRow base e sz v n xs) : ∃ A c, v = .slice A n c := by
  rcases h.2 with ⟨rfl, rfl⟩ | ⟨g, cap, cur, rfl, _⟩
  · exact ⟨none, 0, rfl⟩
  · exact ⟨_, _, rfl⟩
theorem info_partsU {P : Program} {t : TypeId} {z : Option Value} {a b : Nat} (h : (P.info? t).map (fun i => (i.zero, i.size, i.bytes)) = some (z, a, b)) : ∃ i, P.info? t = some i ∧ i.zero = z ∧ i.size = a ∧ i.bytes = b := by
  obtain ⟨i, h1, h2⟩ := Option.map_eq_some_iff.1 h
  simp only [Prod.mk.injEq] at h2
  exact ⟨i, h1, h2.1, h2.2.1, h2.2.2⟩
set_option maxRecDepth 100000 in
theorem info_opU : (Try.prog.info? 59).map (fun i => (i.zero, i.size, i.bytes)) = some (some (.agg #[.int .i64 0, .int .u8 0, .int .u64 0, .int .u64 0, .int .i64 0, .int .i64 0]), 6, 48) := by kernel_rfl
def rowU (l : List UOp) : List Value := l.flatMap UOp.cells
theorem rowU_snoc (l : List UOp) (q : UOp) : rowU (l ++ [q]) = rowU l ++ q.cells := by simp [rowU]
theorem cells_lenU (q : UOp) : q.cells.length = 6 := rfl
theorem rowU_get : ∀ (l : List UOp) (i j : Nat) (q : UOp), l[i]? = some q → j < 6 → (rowU l)[i * 6 + j]? = q.cells[j]?
  | [], i, j, q, h, _ => by simp at h
  | x :: r, i, j, q, h, hj => by
    show (x.cells ++ rowU r)[i * 6 + j]? = _
    cases i with
    | zero =>
      simp at h; subst h
      rw [List.getElem?_append_left (by rw [cells_lenU]; omega)]; simp
    | succ i =>
      rw [List.getElem?_append_right (by rw [cells_lenU]; omega), cells_lenU, show (i + 1) * 6 + j - 6 = i * 6 + j by omega]
      exact rowU_get r i j q (by simpa using h) hj
theorem UOp.cells_one (q : UOp) : ∀ v ∈ q.cells, v.oneCell' = true := fun v hv => by
  simp only [UOp.cells, List.mem_cons, List.not_mem_nil, or_false] at hv
  rcases hv with h | h | h | h | h | h <;> rw [h] <;> rfl
theorem opsU_own {w : World} {base : Nat} {e : TypeId} {A : Option Addr} {cap n : Nat} {l : List UOp} (h : w.ownsRow base e 6 (.slice A n cap) n (rowU l)) (hn : l.length = n) : OpsU w A l ∧ n ≤ cap := by
  rcases h.2 with ⟨e0, e1⟩ | ⟨g, cap', cur, e0, hb, hg, hc, _⟩
  · exact ⟨.inl (List.length_eq_zero_iff.1 (by omega)), by omega⟩
  · injection e0 with e1 _ e3
    subst e1; subst e3
    refine ⟨.inr ⟨g, 0, rfl, (Array.getElem?_eq_some_iff.1 hg).1, fun i q hq j hj => ?_⟩, hc⟩
    have hi : i < l.length := (List.getElem?_eq_some_iff.1 hq).1
    rw [Nat.zero_add, World.ownsRow.cellAt h (i * 6 + j) (by omega), rowU_get l i j q hq hj]
def putS (b : Nat) (m : Pth → Option Int) (q : UOp) : Pth → Option Int := putU m (opK q b) q.id
/-- the calls that put what is held -/
structure KpU2 (b : Nat) (m : Pth → Option Int) (l : List UOp) : Prop where
  each : ∀ q ∈ l, ∃ p, opK q b = some p ∧ m p = some q.id
  all : ∀ p, (m p).isSome = true → ∃ q ∈ l, opK q b = some p
theorem KpU2.nil (b : Nat) : KpU2 b (fun _ => none) [] := ⟨fun q h => (by cases h), fun p h => (by cases h)⟩
theorem putB_true {m : Pth → Option Int} {k : Option Pth} (h : putB m k = true) : ∃ p, k = some p ∧ m p = none := by
  cases k with
  | none => cases h
  | some p => exact ⟨p, rfl, by simpa [putB] using h⟩
theorem putU_no {m : Pth → Option Int} {k : Option Pth} (h : putB m k = false) (i : Int) : putU m k i = m := by
  cases k with
  | none => rfl
  | some p => exact if_pos (by simpa [putB] using h)
theorem KpU2.snoc {b : Nat} {m : Pth → Option Int} {l : List UOp} (h : KpU2 b m l) (q : UOp) (hq : putB m (opK q b) = true) : KpU2 b (putS b m q) (l ++ [q]) := by
  obtain ⟨p, hp, hm⟩ := putB_true hq
  have e : putS b m q = updU m p (some q.id) := by
    unfold putS
    rw [hp]
    exact if_neg (by rw [hm]; simp)
  rw [e]
  refine ⟨fun q' hq' => ?_, fun r hr => ?_⟩
  · rcases List.mem_append.1 hq' with h1 | h1
    · obtain ⟨p', h2, h3⟩ := h.each q' h1
      refine ⟨p', h2, ?_⟩
      rw [updU_other _ _ (fun e => by rw [e, hm] at h3; cases h3)]
      exact h3
    · rw [List.mem_singleton] at h1
      subst h1
      exact ⟨p, hp, updU_same _ _ _⟩
  · by_cases e : r = p
    · subst e
      exact ⟨q, List.mem_append.2 (.inr (List.mem_singleton.2 rfl)), hp⟩
    · rw [updU_other _ _ e] at hr
      obtain ⟨q', h1, h2⟩ := h.all r hr
      exact ⟨q', List.mem_append.2 (.inl h1), h2⟩
def putAll (b : Nat) (m : Pth → Option Int) (l : List UOp) : Pth → Option Int := l.foldl (putS b) m
def remAll (b : Nat) (m : Pth → Option Int) (l : List UOp) : Pth → Option Int := l.foldl (fun m q => remU m (opK q b)) m
theorem putU_at (m : Pth → Option Int) (k : Option Pth) (i : Int) (p : Pth) : putU m k i p = if (m p).isSome = true then m p else if k = some p then some i else none := by
  cases k with
  | none =>
    show m p = _
    by_cases h : (m p).isSome = true
    · rw [if_pos h]
    · rw [if_neg h, if_neg (by simp)]
      simpa using h
  | some q =>
    show (if (m q).isSome = true then m else updU m q (some i)) p = _
    by_cases e : p = q
    · subst e
      by_cases h : (m p).isSome = true
      · rw [if_pos h, if_pos h]
      · rw [if_neg h, if_neg h, updU_same, if_pos rfl]
    · have h2 : (if (m q).isSome = true then m else updU m q (some i)) p = m p := by
        split
        · rfl
        · exact updU_other _ _ e
      rw [h2]
      by_cases h : (m p).isSome = true
      · rw [if_pos h]
      · rw [if_neg h, if_neg (fun h => e (by injection h with h; exact h.symm))]
        simpa using h
theorem remU_at (m : Pth → Option Int) (k : Option Pth) (p : Pth) : remU m k p = if k = some p then none else m p := by
  cases k with
  | none => simp [remU]
  | some q =>
    show updU m q none p = _
    by_cases e : p = q
    · subst e; rw [updU_same, if_pos rfl]
    · rw [updU_other _ _ e, if_neg (fun h => e (by injection h with h; exact h.symm))]
theorem putAll_at (b : Nat) (z : Int) (p : Pth) : ∀ (l : List UOp) (m : Pth → Option Int), (∀ q ∈ l, opK q b = some p → q.id = z) → putAll b m l p = if (m p).isSome = true then m p else if ∃ q ∈ l, opK q b = some p then some z else none
  | [], m, _ => by
    show m p = _
    by_cases h : (m p).isSome = true
    · rw [if_pos h]
    · rw [if_neg h, if_neg (by simp)]
      simpa using h
  | q :: l, m, hz => by
    show putAll b (putS b m q) l p = _
    rw [putAll_at b z p l _ (fun q' h => hz q' (List.mem_cons_of_mem _ h))]
    have e := putU_at m (opK q b) q.id p
    unfold putS
    by_cases h : (m p).isSome = true
    · rw [if_pos h] at e
      rw [e, if_pos h, if_pos h]
    · rw [if_neg h] at e
      rw [if_neg h]
      by_cases hk : opK q b = some p
      · rw [if_pos hk] at e
        rw [e, if_pos (show (some q.id).isSome = true from rfl), if_pos (show ∃ q' ∈ q :: l, opK q' b = some p from ⟨q, List.mem_cons_self .., hk⟩), hz q (List.mem_cons_self ..) hk]
      · rw [if_neg hk] at e
        rw [e, if_neg (show ¬ (none : Option Int).isSome = true by simp)]
        by_cases hx : ∃ q ∈ l, opK q b = some p
        · rw [if_pos hx, if_pos (show ∃ q' ∈ q :: l, opK q' b = some p by obtain ⟨q', h1, h2⟩ := hx; exact ⟨q', List.mem_cons_of_mem _ h1, h2⟩)]
        · rw [if_neg hx, if_neg (show ¬ ∃ q' ∈ q :: l, opK q' b = some p from fun ⟨q', h1, h2⟩ => by
            rcases List.mem_cons.1 h1 with h3 | h3
            · rw [h3] at h2; exact hk h2
            · exact hx ⟨q', h3, h2⟩)]
theorem remAll_at (b : Nat) (p : Pth) : ∀ (l : List UOp) (m : Pth → Option Int), remAll b m l p = if ∃ q ∈ l, opK q b = some p then none else m p
  | [], m => by rw [if_neg (by simp)]; rfl
  | q :: l, m => by
    show remAll b (remU m (opK q b)) l p = _
    rw [remAll_at b p l, remU_at]
    by_cases hk : opK q b = some p
    · rw [if_pos hk, if_pos (show ∃ q' ∈ q :: l, opK q' b = some p from ⟨q, List.mem_cons_self .., hk⟩)]
      split <;> rfl
    · rw [if_neg hk]
      by_cases hx : ∃ q ∈ l, opK q b = some p
      · rw [if_pos hx, if_pos (show ∃ q' ∈ q :: l, opK q' b = some p by obtain ⟨q', h1, h2⟩ := hx; exact ⟨q', List.mem_cons_of_mem _ h1, h2⟩)]
      · rw [if_neg hx, if_neg (show ¬ ∃ q' ∈ q :: l, opK q' b = some p from fun ⟨q', h1, h2⟩ => by
          rcases List.mem_cons.1 h1 with h3 | h3
          · rw [h3] at h2; exact hk h2
          · exact hx ⟨q', h3, h2⟩)]
/-- in the end both tries hold the same -/
theorem order_sameU {b : Nat} {mx my : Pth → Option Int} {kx ky : List UOp} (hx : KpU2 b mx kx) (hy : KpU2 b my ky) : putAll b (remAll b (putAll b my kx.reverse) ky) kx = mx := by
  funext p
  have hid : ∀ q ∈ kx, opK q b = some p → q.id = (mx p).getD 0 := fun q hq hk => by
    obtain ⟨p', h1, h2⟩ := hx.each q hq
    rw [hk] at h1
    injection h1 with h1
    rw [h1, h2]; rfl
  rw [putAll_at b ((mx p).getD 0) p kx _ hid, remAll_at, putAll_at b ((mx p).getD 0) p kx.reverse _ (fun q hq => hid q (List.mem_reverse.1 hq))]
  by_cases hkx : ∃ q ∈ kx, opK q b = some p
  · have hm : mx p = some ((mx p).getD 0) := by
      obtain ⟨q, hq, hk⟩ := hkx
      obtain ⟨p', h1, h2⟩ := hx.each q hq
      rw [hk] at h1
      injection h1 with h1
      rw [h1, h2]; rfl
    have hkr : ∃ q ∈ kx.reverse, opK q b = some p := by
      obtain ⟨q, hq, hk⟩ := hkx
      exact ⟨q, List.mem_reverse.2 hq, hk⟩
    rw [if_pos hkx, if_pos hkr, ← hm]
    by_cases hky : ∃ q ∈ ky, opK q b = some p
    · rw [if_pos hky, if_neg (by simp)]
    · rw [if_neg hky]
      have hmy : ¬ (my p).isSome = true := fun h => hky (hy.all p h)
      rw [if_neg hmy, if_pos (by rw [hm]; rfl)]
  · have hmx : mx p = none := by
      cases h : mx p with
      | none => rfl
      | some z => exact absurd (hx.all p (by rw [h]; rfl)) hkx
    have hkr : ¬ ∃ q ∈ kx.reverse, opK q b = some p := fun ⟨q, hq, hk⟩ => hkx ⟨q, List.mem_reverse.1 hq, hk⟩
    rw [if_neg hkx, if_neg hkr, hmx]
    by_cases hky : ∃ q ∈ ky, opK q b = some p
    · rw [if_pos hky, if_neg (by simp)]
    · rw [if_neg hky]
      have hmy : ¬ (my p).isSome = true := fun h => hky (hy.all p h)
      rw [if_neg hmy, if_neg (by simp)]
end Go.Proofs.Ytmlocfojmncghaa
