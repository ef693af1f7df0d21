/- Layer 11: the index in memory: a box with a map. -/
import Derived.Test.YtldgjahpmlafgaaGreatQMap
namespace Go.Proofs.YtldgjahpmlafgaaGreat
open Go.RowKit Go.Maps
def updF (f : Pt → Int) (p : Pt) (n : Int) : Pt → Int := fun q => if q = p then n else f q
set_option maxRecDepth 100000 in
theorem zeroInt (w : World) : (zeroValue 3).run Tryz.prog w = .ok (.int .i64 0) w := by kernel_rfl
/-- block b is a map that holds just these points, with these numbers -/
def PMap (w : World) (b n : Nat) (pts : List Pt) (f : Pt → Int) : Prop :=
  ∃ D : DataW Unit, w.ownsMap Tryz.prog 51 (plainElem Tryz.prog 3) b n D ∧ (∀ p, Maps.has D (kl p) = decide (p ∈ pts)) ∧ (∀ p z, p ∈ pts → D.atKey (kl p) z = .lit (.int .i64 (f p))) ∧ Maps.size D = pts.length
theorem PMap.kept {w w' : World} {b n : Nat} {pts : List Pt} {f : Pt → Int} {row : Option Nat} (h : PMap w b n pts f) (hg : w.grownBy w' row) (hne : some b ≠ row) : PMap w' b n pts f := by
  obtain ⟨D, h1, h2⟩ := h
  exact ⟨D, h1.kept hg hne, h2⟩
theorem PMap.drew {w : World} {b n : Nat} {pts : List Pt} {f : Pt → Int} (h : PMap w b n pts f) : PMap w.drew b n pts f := by
  obtain ⟨D, h1, h2⟩ := h
  exact ⟨D, h1.drew, h2⟩
theorem PMap.lt {w : World} {b n : Nat} {pts : List Pt} {f : Pt → Int} (h : PMap w b n pts f) : b < w.heap.size := by
  obtain ⟨D, h1, h2⟩ := h
  exact h1.lt
theorem PMap.mono {w : World} {b n n' : Nat} {pts : List Pt} {f : Pt → Int} (h : PMap w b n pts f) (hn : n ≤ n') : PMap w b n' pts f := by
  obtain ⟨D, h1, h2⟩ := h
  exact ⟨D, h1.mono hn, h2⟩
theorem PMap.made (w : World) (f : Pt → Int) : PMap (w.alloc (.map #[] 0)) w.heap.size 0 [] f :=
  ⟨.map [], World.ownsMap_made _ _ _ _, fun p => by simp [Maps.has], fun p z h => (by cases h), rfl⟩
theorem PMap.look {w : World} {b n : Nat} {pts : List Pt} {f : Pt → Int} (h : PMap w b n pts f) (p : Pt) : (Instr.lookup 248 (.map (some b)) (ptV p) true).run Tryz.prog w = .ok (.tuple #[.int .i64 (if p ∈ pts then f p else 0), .bool (decide (p ∈ pts))]) w := by
  obtain ⟨D, h1, h2, h3, _⟩ := h
  obtain ⟨v, ps, hrun, hv⟩ := h1.look_ok lawPt Tryz.underlying248 (zeroInt w) (plainElem_int Tryz.underlying3 (by decide)) (keyPt p)
  obtain ⟨a, rfl, hx, _⟩ := plainElem_int_inv Tryz.underlying3 hv
  rw [hrun, h2 p]
  by_cases hp : p ∈ pts
  · rw [h3 p _ hp] at hx
    simp only [Prod.mk.injEq, DataW.lit.injEq, Lit.int.injEq, true_and] at hx
    rw [if_pos hp, hx.1]
  · rw [atKey_of_not_has (by rw [h2 p]; simpa using hp)] at hx
    simp only [Prod.mk.injEq, DataW.lit.injEq, Lit.int.injEq, true_and] at hx
    rw [if_neg hp, hx.1]
theorem PMap.put {w : World} {b n : Nat} {pts : List Pt} {f : Pt → Int} (h : PMap w b n pts f) (p : Pt) (hp : p ∉ pts) (id : Int) (hw : (Lit.int .i64 id).wf = true) (hn : n < maxLen) : ∃ w', (Instr.mapUpdate 248 (.map (some b)) (ptV p) (.int .i64 id)).run Tryz.prog w = .ok () w' ∧ PMap w' b (n + 1) (putL p pts) (updF f p id) ∧ w.mapTurned w' b := by
  obtain ⟨D, h1, h2, h3, h4⟩ := h
  obtain ⟨w', hrun, k1, k2⟩ := h1.store lawPt Tryz.underlying248 hn (keyPt p) (plainElem_int Tryz.underlying3 hw)
  refine ⟨w', hrun, ⟨_, k1, fun q => ?_, fun q z hq => ?_, ?_⟩, k2⟩
  · by_cases e : q = p
    · subst e
      rw [has_put_same h1.isMap (lawPt.key (keyPt q))]
      exact (decide_eq_true ((putL_mem q q pts).2 (.inl rfl))).symm
    · rw [has_put_other (fun e2 => e (kl_inj e2)), h2 q]
      by_cases hq : q ∈ pts
      · rw [decide_eq_true hq, decide_eq_true ((putL_mem p q pts).2 (.inr hq))]
      · rw [decide_eq_false hq, decide_eq_false fun h => ((putL_mem p q pts).1 h).elim e hq]
  · by_cases e : q = p
    · subst e
      rw [atKey_put_same h1.isMap (lawPt.key (keyPt q)), updF, if_pos rfl]
    · rw [atKey_put_other (fun e2 => e (kl_inj e2)), updF, if_neg e]
      exact h3 q z (((putL_mem p q pts).1 hq).resolve_left e)
  · rw [size_put (h1.tidy lawPt), h2 p, decide_eq_false hp, h4, putL_len]
    simp
theorem PMap.del {w : World} {b n : Nat} {pts : List Pt} {f : Pt → Int} (h : PMap w b n pts f) (ha : Asc pts) (p : Pt) (hp : p ∈ pts) (ty : TypeId) : ∃ w', (Builtin.delete_ #[248, 51] ty #[.map (some b), ptV p]).run Tryz.prog w = .ok (.tuple #[]) w' ∧ PMap w' b n (remL p pts) f ∧ w.mapTurned w' b := by
  obtain ⟨D, h1, h2, h3, h4⟩ := h
  obtain ⟨w', hrun, k1, k2⟩ := h1.drop lawPt Tryz.underlying248 (keyPt p) ty
  refine ⟨w', hrun, ⟨_, k1, fun q => ?_, fun q z hq => ?_, ?_⟩, k2⟩
  · by_cases e : q = p
    · subst e
      rw [has_del_same]
      exact (decide_eq_false fun h => ((remL_mem q q pts ha hp).1 h).2 rfl).symm
    · rw [has_del_other (fun e2 => e (kl_inj e2)), h2 q]
      by_cases hq : q ∈ pts
      · rw [decide_eq_true hq, decide_eq_true ((remL_mem p q pts ha hp).2 ⟨hq, e⟩)]
      · rw [decide_eq_false hq, decide_eq_false fun h => hq ((remL_mem p q pts ha hp).1 h).1]
  · obtain ⟨hq, e⟩ := (remL_mem p q pts ha hp).1 hq
    rw [atKey_del_other (fun e2 => e (kl_inj e2))]
    exact h3 q z hq
  · have h5 := size_del (h1.tidy lawPt) (k := kl p)
    rw [h2 p, decide_eq_true hp, h4] at h5
    have h6 := remL_len p pts ha hp
    simp at h5
    omega
theorem PMap.len {w : World} {b n : Nat} {pts : List Pt} {f : Pt → Int} (h : PMap w b n pts f) (ty : TypeId) : (Builtin.len_ #[248] ty #[.map (some b)]).run Tryz.prog w = .ok (.int .i64 pts.length) w := by
  obtain ⟨D, h1, h2, h3, h4⟩ := h
  rw [h1.len Tryz.underlying248 ty, h4]
theorem grown_of_belowQ {w w' : World} (h : Below w.heap.size w w') (row : Option Nat) : w.grownBy w' row := ⟨h.os, h.tape, h.output, h.size, fun k hk _ => h.block k hk⟩
/-- nothing but block X and the map m has changed -/
structure Turns (w w' : World) (X : Nat) (m : Option Nat) : Prop where
  os : w'.os = w.os
  tape : w'.tape = w.tape
  output : w'.output = w.output
  size : w.heap.size ≤ w'.heap.size
  block : ∀ j, j < w.heap.size → j ≠ X → some j ≠ m → w'.heap[j]? = w.heap[j]?
theorem Turns.refl (w : World) (X : Nat) (m : Option Nat) : Turns w w X m := ⟨rfl, rfl, rfl, Nat.le_refl _, fun _ _ _ _ => rfl⟩
theorem Turns.of_below {w w' : World} {X : Nat} {m : Option Nat} (h : Below w.heap.size w w') : Turns w w' X m := ⟨h.os, h.tape, h.output, h.size, fun j hj _ _ => h.block j hj⟩
theorem Turns.below {w w' : World} {X B : Nat} {m : Option Nat} (h : Turns w w' X m) (hB : B ≤ w.heap.size) (hX : B ≤ X) (hm : ∀ b, m = some b → B ≤ b) : Below B w w' :=
  ⟨h.os, h.tape, h.output, h.size, fun j hj => h.block j (by omega) (by omega) fun e => by have := hm j e.symm; omega⟩
theorem Turns.andThen {a b c : World} {X : Nat} {m m' : Option Nat} (h : Turns a b X m) (k : Turns b c X m') (hm : ∀ j, m' = some j → m = some j ∨ a.heap.size ≤ j) : Turns a c X m :=
  ⟨k.os.trans h.os, k.tape.trans h.tape, k.output.trans h.output, Nat.le_trans h.size k.size, fun j hj h1 h2 => (k.block j (Nat.lt_of_lt_of_le hj h.size) h1 (fun e => by
    rcases hm j e.symm with e2 | e2
    · exact h2 e2.symm
    · omega)).trans (h.block j hj h1 h2)⟩
theorem Turns.of_grown {w w' : World} {X b : Nat} {m : Option Nat} (h : w.grownBy w' (some b)) (hb : m = some b ∨ w.heap.size ≤ b) : Turns w w' X m :=
  ⟨h.os, h.tape, h.output, h.size, fun j hj _ h2 => h.block j hj fun e => by
    rcases hb with e2 | e2
    · exact h2 (by rw [e2, e])
    · injection e with e; omega⟩
/-- the index: block X holds nil, or the map m -/
structure IdxAt (w : World) (X : Nat) (m : Option Nat) (k : Nat) (pts : List Pt) (f : Pt → Int) : Prop where
  asc : Asc pts
  lt : X < w.heap.size
  froz : w.frozen? ⟨X, 0, none⟩ = false
  c : w.cell? ⟨X, 0, none⟩ = some (.map m)
  no : m = none → pts = []
  yes : ∀ b, m = some b → b ≠ X ∧ PMap w b k pts f
theorem IdxAt.below {w w' : World} {X k : Nat} {m : Option Nat} {pts : List Pt} {f : Pt → Int} (h : IdxAt w X m k pts f) (hb : Below w.heap.size w w') : IdxAt w' X m k pts f :=
  ⟨h.asc, Nat.lt_of_lt_of_le h.lt hb.size, by rw [World.frozen?_of_block (a := ⟨X, 0, none⟩) (hb.block X h.lt)]; exact h.froz, by rw [hb.cell (p := ⟨X, 0, none⟩) h.lt]; exact h.c, h.no, fun b e => ⟨(h.yes b e).1, (h.yes b e).2.kept (grown_of_belowQ hb none) (by simp)⟩⟩
theorem IdxAt.mono {w : World} {X k k' : Nat} {m : Option Nat} {pts : List Pt} {f : Pt → Int} (h : IdxAt w X m k pts f) (hk : k ≤ k') : IdxAt w X m k' pts f :=
  ⟨h.asc, h.lt, h.froz, h.c, h.no, fun b e => ⟨(h.yes b e).1, (h.yes b e).2.mono hk⟩⟩
/-- what else turns: other blocks -/
theorem IdxAt.aside {w w' : World} {X k : Nat} {m : Option Nat} {pts : List Pt} {f : Pt → Int} (h : IdxAt w X m k pts f) (hs : w.heap.size ≤ w'.heap.size) (hb : ∀ j, j = X ∨ m = some j → w'.heap[j]? = w.heap[j]?) : IdxAt w' X m k pts f := by
  refine ⟨h.asc, Nat.lt_of_lt_of_le h.lt hs, by rw [World.frozen?_of_block (a := ⟨X, 0, none⟩) (hb X (.inl rfl))]; exact h.froz, by rw [World.cell?_of_block (a := ⟨X, 0, none⟩) (hb X (.inl rfl))]; exact h.c, h.no, fun b e => ⟨(h.yes b e).1, ?_⟩⟩
  obtain ⟨D, ⟨es, clock, hb1, hF⟩, h2⟩ := (h.yes b e).2
  exact ⟨D, ⟨es, clock, (hb b (.inr e)).trans hb1, hF⟩, h2⟩
end Go.Proofs.YtldgjahpmlafgaaGreat
