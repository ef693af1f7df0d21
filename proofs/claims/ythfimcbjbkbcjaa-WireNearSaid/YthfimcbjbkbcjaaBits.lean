/- Arrays of 128 bits: how they are made, read whole and stored whole. -/
import Derived.Test.YthfimcbjbkbcjaaVal4
import Derived.Laws.IdiomCopy
import Derived.Deep.MidRow
import Derived.Deep.WholeRow
namespace Go.Proofs.Ythfimcbjbkbcjaa
open Go.RowKit

/-- An array of 128 bits. (Under a name that no unification opens.) -/
theorem bitsL_exists (f : Nat → Bool) : ∃ l : List Value, l = (List.range 128).map fun i => Value.bool (f i) := ⟨_, rfl⟩
noncomputable def bitsL (f : Nat → Bool) : List Value := (bitsL_exists f).choose
theorem bitsL_def (f : Nat → Bool) : bitsL f = (List.range 128).map fun i => Value.bool (f i) := (bitsL_exists f).choose_spec
noncomputable def bitsA (f : Nat → Bool) : Array Value := (bitsL f).toArray
theorem bitsL_len (f : Nat → Bool) : (bitsL f).length = 128 := by simp [bitsL_def]
theorem bitsA_size (f : Nat → Bool) : (bitsA f).size = 128 := by simp [bitsA, bitsL_def]
theorem bitsA_get (f : Nat → Bool) (i : Nat) (h : i < 128) : (bitsA f)[i]? = some (.bool (f i)) := by
  simp [bitsA, bitsL_def, h]
theorem bitsL_get (f : Nat → Bool) (i : Nat) (h : i < 128) : (bitsL f)[i]? = some (.bool (f i)) := by
  simp [bitsL_def, h]
theorem bitsL_one (f : Nat → Bool) : ∀ v ∈ bitsL f, v.oneCell' = true := fun v hv => by
  rw [bitsL_def] at hv
  obtain ⟨i, _, rfl⟩ := List.mem_map.1 hv
  rfl
theorem bitsA_congr {f g : Nat → Bool} (h : ∀ i, i < 128 → f i = g i) : bitsA f = bitsA g := by
  unfold bitsA
  rw [bitsL_def, bitsL_def]
  congr 1
  apply List.map_congr_left
  intro i hi
  rw [h i (List.mem_range.1 hi)]

theorem zero_bits (w : World) : (zeroValue 86).run Try.prog w = .ok (.agg (bitsA fun _ => false)) w := by
  rw [bitsA, bitsL_def]
  kernel_rfl
@[simp] theorem zeroCells_bits : Try.zeroCells86 = bitsA fun _ => false := by
  rw [bitsA, bitsL_def]
  kernel_rfl
theorem info_bits : (Try.prog.info? 86).map (·.size) = some 128 := by kernel_rfl

/-- The bits f lie in block b, and may be written. -/
structure BitsAt (w : World) (b : Nat) (f : Nat → Bool) : Prop where
  cell : ∀ i, i < 128 → w.cell? ⟨b, i, none⟩ = some (.bool (f i))
  froz : ∀ i, i < 128 → w.frozen? ⟨b, i, none⟩ = false
theorem BitsAt.range {w : World} {b : Nat} {f : Nat → Bool} (h : BitsAt w b f) : w.rangeAt b 0 (bitsL f) := fun j v hv => by
  have hj : j < 128 := by have := (List.getElem?_eq_some_iff.1 hv).1; rwa [bitsL_len] at this
  rw [bitsL_get f j hj] at hv
  rw [Nat.zero_add, h.cell j hj, hv]
theorem BitsAt.there {w : World} {b : Nat} {f : Nat → Bool} (h : BitsAt w b f) : w.there b 0 128 := fun j hj => by
  rw [Nat.zero_add, h.cell j hj, h.froz j hj]; exact ⟨rfl, rfl⟩
theorem BitsAt.new (w : World) (f : Nat → Bool) (t : TypeId) : BitsAt (w.alloc (.cells (bitsA f) t)) w.heap.size f :=
  ⟨fun i h => by rw [World.cell?_alloc_new]; exact bitsA_get f i h, fun i _ => World.frozen?_alloc_new _ _ _ _⟩
theorem BitsAt.past {w : World} {b : Nat} {f : Nat → Bool} (h : BitsAt w b f) (hb : b < w.heap.size) (o : Obj) : BitsAt (w.alloc o) b f :=
  ⟨fun i hi => by rw [World.cell?_alloc_past _ _ _ hb]; exact h.cell i hi, fun i hi => by rw [World.frozen?_alloc_past _ _ _ hb]; exact h.froz i hi⟩
theorem BitsAt.drew {w : World} {b : Nat} {f : Nat → Bool} (h : BitsAt w b f) : BitsAt w.drew b f := ⟨h.cell, h.froz⟩
theorem BitsAt.below {w w' : World} {b B : Nat} {f : Nat → Bool} (h : BitsAt w b f) (hB : Below B w w') (hb : b < B) : BitsAt w' b f :=
  ⟨fun i hi => by rw [hB.cell (p := ⟨b, i, none⟩) hb]; exact h.cell i hi, fun i hi => by rw [hB.frozen (p := ⟨b, i, none⟩) hb]; exact h.froz i hi⟩
theorem BitsAt.far {w : World} {b : Nat} {f : Nat → Bool} (h : BitsAt w b f) (p : Addr) (hp : p.block ≠ b) (v : Value) : BitsAt (w.setCell p v) b f :=
  ⟨fun i hi => by rw [World.cell?_setCell_far _ _ _ _ hp]; exact h.cell i hi, fun i hi => by rw [World.frozen?_setCell]; exact h.froz i hi⟩
theorem BitsAt.put {w : World} {b : Nat} {f g : Nat → Bool} (h : BitsAt w b f) (k : Nat) (hk : k < 128) (x : Bool) (hg : ∀ i, i < 128 → g i = if i = k then x else f i) : BitsAt (w.setCell ⟨b, k, none⟩ (.bool x)) b g :=
  ⟨fun i hi => by
    rw [hg i hi]
    by_cases e : i = k
    · subst e
      rw [if_pos rfl, World.cell?_setCell_same' _ _ _ (by rw [h.cell i hi]; rfl)]
    · rw [if_neg e, World.cell?_setCell_other _ _ _ _ (by intro e'; injection e' with _ e2; exact e e2.symm), h.cell i hi],
   fun i hi => by rw [World.frozen?_setCell]; exact h.froz i hi⟩
theorem BitsAt.congr {w : World} {b : Nat} {f g : Nat → Bool} (h : BitsAt w b f) (hg : ∀ i, i < 128 → f i = g i) : BitsAt w b g :=
  ⟨fun i hi => by rw [← hg i hi]; exact h.cell i hi, h.froz⟩
theorem BitsAt.stored {w : World} {b : Nat} (h : w.there b 0 128) (g : Nat → Bool) : BitsAt (w.setCells b 0 (bitsL g)) b g :=
  ⟨fun i hi => by
    have := World.rangeAt_setCells_same w b 0 (bitsL g) (by rw [bitsL_len]; exact h) i (.bool (g i)) (bitsL_get g i hi)
    rwa [Nat.zero_add] at this,
   fun i hi => by rw [World.frozen?_setCells]; have := (h i hi).2; rwa [Nat.zero_add] at this⟩

theorem BitsAt.farAll {w : World} {b : Nat} {f : Nat → Bool} (h : BitsAt w b f) {b' : Nat} (hb : b' ≠ b) (o : Nat) (vs : List Value) : BitsAt (w.setCells b' o vs) b f :=
  ⟨fun i hi => by rw [World.cell?_setCells_out b' vs o w ⟨b, i, none⟩ (fun e => absurd e.symm hb)]; exact h.cell i hi,
   fun i hi => by rw [World.frozen?_setCells]; exact h.froz i hi⟩
theorem there_below {W w' : World} {b n : Nat} (hx : Below W.heap.size W w') (t : W.there b 0 n) : w'.there b 0 n := fun j hj => by
  obtain ⟨h1, h2⟩ := t j hj
  obtain ⟨u, hu⟩ := Option.isSome_iff_exists.1 h1
  have hl := World.block_lt_of_cell? W _ hu
  rw [hx.cell hl, hx.frozen hl]
  exact ⟨h1, h2⟩
theorem there_lt {W : World} {b n : Nat} (t : W.there b 0 n) (hn : 0 < n) : b < W.heap.size := by
  obtain ⟨u, hu⟩ := Option.isSome_iff_exists.1 (t 0 hn).1
  exact World.block_lt_of_cell? W _ hu
theorem drew_size (w : World) : w.drew.heap.size = w.heap.size := rfl
/-- A new array of bits: the world behind it under a name. -/
theorem upon_new {o : Oper} {a : Act} {K : Act → World → Prop} {Q : Exit → Act → World → Prop} {W : World} (k : Nat) (_ho : o.dst = some k)
    (h : ∀ W' : World, W'.there W.heap.size 0 128 → Below W.heap.size W W' → Oper.upon Try.prog o a K Q (.ok (.value (.pointer (some ⟨W.heap.size, 0, none⟩))) W')) :
    Oper.upon Try.prog o a K Q (.ok (.value (.pointer (some ⟨W.heap.size, 0, none⟩))) (W.alloc (.cells (bitsA fun _ => false) 86))) :=
  h _ (BitsAt.new W _ _).there ((Below.refl _ _).alloc (Nat.le_refl _) _)
theorem load_bits {w : World} {b : Nat} {f : Nat → Bool} (h : BitsAt w b f) : (Instr.loadAt 86 (.pointer (some ⟨b, 0, none⟩))).run Try.prog w = .ok (.agg (bitsA f)) w :=
  run_loadAt_mid w b 0 86 (bitsL f) _ h.range Try.underlying86 rfl (by rw [bitsL_len]; exact info_bits)
theorem loadVar_bits {w : World} {b : Nat} {f : Nat → Bool} (h : BitsAt w b f) : (loadVar 86 ⟨b, 0, none⟩).run Try.prog w = .ok (.agg (bitsA f)) w :=
  run_loadVar_mid w b 0 86 (bitsL f) _ h.range Try.underlying86 rfl (by rw [bitsL_len]; exact info_bits)
theorem store_bits {w : World} {b : Nat} (f : Nat → Bool) (h : w.there b 0 128) : (Instr.storeAt 86 (.pointer (some ⟨b, 0, none⟩)) (.agg (bitsA f))).run Try.prog w = .ok () (w.setCells b 0 (bitsL f)) := by
  have := run_storeAt_mid (P := Try.prog) w b 0 86 (bitsA f) (by rw [bitsA_size]; exact h) (by rw [bitsA_size]; exact info_bits) (all_oneCell_toArray (bitsL_one f))
  simpa [bitsA] using this
theorem wpList_load_bits {ops : Array Oper} {rest : List Oper} {op : Oper} {a : Act} {w : World} {Q : Exit → Act → World → Prop} {b : Nat} {f : Nat → Bool} (hgd : op.guard = none) {x : Operand} (ho : op.op = .load 86 x)
    (hx : a.eval x = .pointer (some ⟨b, 0, none⟩)) (h : BitsAt w b f) (K : wpList Try.prog ops Q rest (a.put op.dst (.agg (bitsA f))) w) : wpList Try.prog ops Q (op :: rest) a w :=
  wpList_load_mid hgd 86 x ho b 0 hx (bitsL f) _ h.range Try.underlying86 rfl (by rw [bitsL_len]; exact info_bits) K
theorem wpList_store_bits {ops : Array Oper} {rest : List Oper} {op : Oper} {a : Act} {w : World} {Q : Exit → Act → World → Prop} {b : Nat} {f : Nat → Bool} (hgd : op.guard = none) {x y : Operand} (ho : op.op = .store 86 x y)
    (hx : a.eval x = .pointer (some ⟨b, 0, none⟩)) (hy : a.eval y = .agg (bitsA f)) (h : w.there b 0 128) (K : wpList Try.prog ops Q rest (a.put op.dst undef) (w.setCells b 0 (bitsL f))) : wpList Try.prog ops Q (op :: rest) a w :=
  wpList_store_mid hgd 86 x y ho b 0 (bitsA f) hx hy (by rw [bitsA_size]; exact h) (by rw [bitsA_size]; exact info_bits) (all_oneCell_toArray (bitsL_one f)) K
theorem wpList_store_newbits {ops : Array Oper} {rest : List Oper} {op : Oper} {a : Act} {w : World} {Q : Exit → Act → World → Prop} {f g : Nat → Bool} (hgd : op.guard = none) {x y : Operand} (ho : op.op = .store 86 x y)
    (hx : a.eval x = .pointer (some ⟨w.heap.size, 0, none⟩)) (hy : a.eval y = .agg (bitsA f)) (K : wpList Try.prog ops Q rest (a.put op.dst undef) (w.alloc (.cells (bitsA f) 86))) : wpList Try.prog ops Q (op :: rest) a (w.alloc (.cells (bitsA g) 86)) := by
  refine wpList_plain hgd fun _ hK => ?_
  unfold Oper.wp execOp
  have e := run_storeAt_new (P := Try.prog) w 86 (bitsA g) (bitsA f) (by rw [bitsA_size]; exact info_bits) (by rw [bitsA_size, bitsA_size]) (all_oneCell_toArray (bitsL_one f))
  simp only [ho, hx, hy, Sem.run_bind, e, Sem.run_pure, Result.andThen_ok]
  exact hK _ _ K
theorem results_bits {fn : Func} {p : Tmp} (hr : fn.results = #[.cell p 86]) {tmps : Array Value} {w : World} {b : Nat} {f : Nat → Bool} (hp : tmps[p]?.getD undef = .pointer (some ⟨b, 0, none⟩)) (h : BitsAt w b f) :
    (results fn tmps).run Try.prog w = .ok (.agg (bitsA f)) w := by
  simp only [results, hr]
  simp [hp, asAddr, loadVar_bits h]
theorem Below.setCells {B : Nat} {w0 w : World} (h : Below B w0 w) {b : Nat} (hb : B ≤ b) : ∀ (o : Nat) (vs : List Value), Below B w0 (w.setCells b o vs) := fun o vs => by
  induction vs generalizing o w with
  | nil => exact h
  | cons v vs ih => exact ih (h.setCell (p := ⟨b, o, none⟩) hb v) (o + 1)
end Go.Proofs.Ythfimcbjbkbcjaa
