/- Layer 12: what the reference's Put and Remove want. -/
import Derived.Test.YtmlocfojmncghaaURef1
import Derived.Test.YtmlocfojmncghaaNLast
import Derived.Deep.RegionHeld3
import Derived.Maps.RangeWalk
namespace Go.Proofs.Ytmlocfojmncghaa
open Go.RowKit
set_option maxRecDepth 100000 in
theorem info_rpre : (Try.prog.info? 76).map (fun i => (i.zero, i.size, i.bytes)) = some (some (.agg #[.int .u64 0, .int .u64 0, .int .i64 0, .int .i64 0]), 4, 32) := by kernel_rfl
theorem below_allocE {W0 W : World} (h : Below W0.heap.size W0 W) (o : Obj) : Below W0.heap.size W0 (W.alloc o) := h.alloc h.size _
theorem below_appE {W0 W W' : World} {row : Option Nat} (h : Below W0.heap.size W0 W) (hg : W.grownBy W' row) (hr : ∀ g, row = some g → W0.heap.size ≤ g) : Below W0.heap.size W0 W' := h.grown hg h.size hr
theorem own0E (W : World) (base : Nat) (hb : base ≤ W.heap.size) : (W.alloc (.cells #[] 76)).drew.ownsRow base 76 4 (.slice (some ⟨W.heap.size, 0, none⟩) 0 0) 0 [] := ⟨rfl, .inr ⟨W.heap.size, 0, #[], rfl, hb, heap_alloc_new W _, Nat.le_refl _, Nat.zero_le _, rfl, rfl⟩⟩
theorem own0aE (W : World) (o : Obj) (base : Nat) (hb : base ≤ W.heap.size) : ((W.alloc (.cells #[] 76)).alloc o).drew.ownsRow base 76 4 (.slice (some ⟨W.heap.size, 0, none⟩) 0 0) 0 [] := (World.ownsRow.alloc (own0E W base hb) o)
theorem own0bE (W : World) (o : Obj) (base : Nat) (hb : base ≤ W.heap.size) : ((W.alloc o).alloc (.cells #[] 76)).drew.ownsRow base 76 4 (.slice (some ⟨W.heap.size + 1, 0, none⟩) 0 0) 0 [] := by
  have := own0E (W.alloc o) base (by simp; omega)
  rw [show (W.alloc o).heap.size = W.heap.size + 1 by simp] at this
  exact this
theorem bAE (W : World) (o : Obj) : Below W.heap.size W (W.alloc o).drew := ((Below.refl _ W).alloc (Nat.le_refl _) o).drew
theorem bBE (W : World) (a b : Obj) : Below W.heap.size W ((W.alloc a).alloc b).drew := (((Below.refl _ W).alloc (Nat.le_refl _) a).alloc (by simp) b).drew
theorem src_dropE {w : World} {g n cap : Nat} {L : List PE} (h : RowsE w (some ⟨g, 0, none⟩) L) (i : Nat) : SrcQ w (some ⟨g, i * 4, none⟩) (n - i) (cap - i) (rowE (L.drop i)) := by
  refine .inr ⟨_, rfl, fun j u hu => ?_⟩
  rcases h with h | ⟨g', e, hg, hc⟩
  · rw [h] at hu; simp [rowE] at hu
  · injection e with e
    injection e with e
    subst e
    have hj : j < (L.drop i).length * 4 := by
      have := (List.getElem?_eq_some_iff.1 hu).1
      rwa [rowE_len] at this
    have hp : (L.drop i)[j / 4]? = some ((L.drop i)[j / 4]'(by omega)) := List.getElem?_eq_getElem (by omega)
    have hp2 : L[i + j / 4]? = some ((L.drop i)[j / 4]'(by omega)) := by rw [List.getElem?_drop] at hp; exact hp
    have e := rowE_get (L.drop i) (j / 4) (j % 4) _ hp (by omega)
    rw [show j / 4 * 4 + j % 4 = j by omega, hu] at e
    have e2 := hc (i + j / 4) _ hp2 (j % 4) (by omega)
    rw [Addr.add_mid, show i * 4 + j = (i + j / 4) * 4 + j % 4 by omega, e2, ← e]
theorem src_dropIE {w : World} {g n cap : Nat} {L : List PE} (h : RowsE w (some ⟨g, 0, none⟩) L) (hn : L.length = n) (hc : n ≤ cap) (i : Nat) : SrcQ w (if cap = i then some ⟨g, 0, none⟩ else some ⟨g, i * 4, none⟩) (n - i) (cap - i) (rowE (L.drop i)) := by
  by_cases e : cap = i
  · rw [if_pos e]
    refine .inr ⟨_, rfl, fun j u hu => ?_⟩
    rw [List.drop_eq_nil_of_le (by omega)] at hu
    simp [rowE] at hu
  · rw [if_neg e]
    exact src_dropE h i
theorem src_takeE {w : World} {A : Option Addr} {n cap : Nat} {L : List PE} (h : RowsE w A L) (hA : (A = none ∧ cap = 0) ∨ ∃ g, A = some ⟨g, 0, none⟩) (hn : L.length = n) (hc : n ≤ cap) (i : Nat) (hi : i ≤ n) : SrcQ w A i cap (rowE (L.take i)) := by
  cases A with
  | none =>
    have h0 := (hA.resolve_right (fun ⟨g, e⟩ => by cases e)).2
    refine .inl ⟨rfl, by omega, h0, ?_⟩
    have : L = [] := List.length_eq_zero_iff.1 (by omega)
    rw [this]; simp [rowE]
  | some ad =>
    refine .inr ⟨ad, rfl, fun j u hu => ?_⟩
    rcases h with h | ⟨g, e, hg, hc⟩
    · rw [h] at hu; simp [rowE] at hu
    · injection e with e
      subst e
      have hj : j < (L.take i).length * 4 := by
        have := (List.getElem?_eq_some_iff.1 hu).1
        rwa [rowE_len] at this
      have hl : (L.take i).length = i := by rw [List.length_take]; omega
      have hp : (L.take i)[j / 4]? = some ((L.take i)[j / 4]'(by omega)) := List.getElem?_eq_getElem (by omega)
      have hp2 : L[j / 4]? = some ((L.take i)[j / 4]'(by omega)) := by rw [List.getElem?_take, if_pos (by omega)] at hp; exact hp
      have e := rowE_get (L.take i) (j / 4) (j % 4) _ hp (by omega)
      rw [show j / 4 * 4 + j % 4 = j by omega, hu] at e
      have e2 := hc (j / 4) _ hp2 (j % 4) (by omega)
      rw [show j / 4 * 4 + j % 4 = j by omega] at e2
      rw [Addr.add_mid, Nat.zero_add, e2, ← e]
theorem blkAE (W : World) (o o2 : Obj) : ((W.alloc o2).alloc o).drew.heap[W.heap.size + 1]? = some o := by
  have := heap_alloc_new (W.alloc o2) o
  rw [show (W.alloc o2).heap.size = W.heap.size + 1 by simp] at this
  exact this
theorem blkBE (W : World) (o o2 : Obj) : ((W.alloc o).alloc o2).drew.heap[W.heap.size]? = some o := ((Below.refl (W.alloc o).heap.size (W.alloc o)).alloc (Nat.le_refl _) o2 |>.block W.heap.size (by simp)).trans (heap_alloc_new W o)
theorem rowE_put (v n : Nat) (id : Int) (L : List PE) : rowE (putE v n id L) = rowE (L.take (plcE v n L)) ++ PE.cells ⟨v, n, id⟩ ++ rowE (L.drop (plcE v n L)) := by
  unfold putE
  rw [rowE_app, List.append_assoc]; rfl
theorem rowE_rem (v n : Nat) (L : List PE) : rowE (remE v n L) = rowE (L.take (plcE v n L)) ++ rowE (L.drop (plcE v n L + 1)) := rowE_app _ _
theorem re_set {w w1 w2 : World} {Y bits n cap : Nat} {A : Option Addr} {u : Value} {L : List PE} (hb : Below w.heap.size w w1) (hk : Below w1.heap.size w1 w2) (hY : Y < w1.heap.size) (hf : w1.frozen? ⟨Y, 1, none⟩ = false) (h0 : w1.cell? ⟨Y, 0, none⟩ = some (.int .i64 bits)) (hc : w1.cell? ⟨Y, 1, none⟩ = some u) (ho : w2.ownsRow w1.heap.size 76 4 (.slice A n cap) n (rowE L)) (ha : AscE L) (hok : ∀ e ∈ L, e.v < 2 ^ 128 ∧ e.n ≤ 128) (hl : L.length = n) :
    RE (w2.setCell ⟨Y, 1, none⟩ (.slice A n cap)) Y bits A n cap L ∧ FrU (fun j => j = Y) w (w2.setCell ⟨Y, 1, none⟩ (.slice A n cap)) ∧ ∀ g, A = some ⟨g, 0, none⟩ → w.heap.size ≤ g := by
  have hg := grown_set w2 Y 1 (.slice A n cap)
  have hne : (Value.slice A n cap).ownBlock ≠ some Y := fun e => by have := (World.ownsRow.lt ho _ e).1; omega
  have ho2 := World.ownsRow.kept ho hg (.inr hne)
  obtain ⟨h1, h2⟩ := rowsE_own ho2 hl
  refine ⟨⟨ha, hok, hl, h2, by simp; have := hk.size; omega, ?_, ?_, ?_, ?_, h1⟩, ⟨hk.os.trans hb.os, hk.tape.trans hb.tape, hk.output.trans hb.output, Nat.le_trans hb.size (by simp; exact hk.size), fun j hj hjY => ?_⟩, fun g e => ?_⟩
  · rw [World.frozen?_setCell, World.frozen?_of_block (a := ⟨Y, 1, none⟩) (hk.block Y hY)]; exact hf
  · rw [World.cell?_setCell_other _ _ _ _ (by simp)]
    rw [hk.cell (p := ⟨Y, 0, none⟩) hY]; exact h0
  · exact World.cell?_setCell_same _ _ _ (by rw [hk.cell (p := ⟨Y, 1, none⟩) hY]; exact hc)
  · rcases ho.2 with ⟨e, _⟩ | ⟨g, cap', cur, e, _⟩
    · injection e with e1 e2 e3; exact .inl ⟨e1, e3⟩
    · injection e with e1 e2 e3; exact .inr ⟨g, e1⟩
  · exact ((hg.block j (by have := hk.size; have := hb.size; omega) (fun e => hjY (by injection e))).trans (hk.block j (by have := hb.size; omega))).trans (hb.block j hj)
  · have := (World.ownsRow.lt ho g (by rw [e]; rfl)).1
    have := hb.size
    omega
/-- what a call of the reference's trie leaves -/
def LeftE (Y bits n : Nat) (A : Option Addr) (L0 L : List PE) (w w' : World) : Prop := (∃ A' cap', RE w' Y bits A' n cap' L ∧ ∀ g, A' = some ⟨g, 0, none⟩ → L ≠ [] → (A = some ⟨g, 0, none⟩ ∧ L0 ≠ []) ∨ w.heap.size ≤ g) ∧ FrU (fun j => j = Y) w w'
end Go.Proofs.Ytmlocfojmncghaa
