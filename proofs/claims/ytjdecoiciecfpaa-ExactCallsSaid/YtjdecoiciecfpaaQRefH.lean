/- Layer 11: what the reference's Put and Remove want. -/
import Derived.Test.YtjdecoiciecfpaaQRef
import Derived.Test.YtjdecoiciecfpaaNLast
import Derived.Deep.RegionHeld3
import Derived.Maps.RangeWalk
namespace Go.Proofs.Ytjdecoiciecfpaa
open Go.RowKit Go.Maps Go.Sort
set_option maxRecDepth 100000 in
theorem info_rpair : (Try.prog.info? 144).map (fun i => (i.zero, i.size, i.bytes)) = some (some (.agg #[.int .u64 0, .int .u64 0, .int .u64 0, .int .u64 0, .int .u64 0, .int .u64 0, .int .u64 0, .int .u64 0, .int .i64 0]), 9, 72) := by kernel_rfl
theorem below_allocQ {W0 W : World} (h : Below W0.heap.size W0 W) (o : Obj) : Below W0.heap.size W0 (W.alloc o) := h.alloc h.size _
theorem below_app {W0 W W' : World} {row : Option Nat} (h : Below W0.heap.size W0 W) (hg : W.grownBy W' row) (hr : ∀ g, row = some g → W0.heap.size ≤ g) : Below W0.heap.size W0 W' := h.grown hg h.size hr
theorem own0 (W : World) (base : Nat) (hb : base ≤ W.heap.size) : (W.alloc (.cells #[] 144)).drew.ownsRow base 144 9 (.slice (some ⟨W.heap.size, 0, none⟩) 0 0) 0 [] := ⟨rfl, .inr ⟨W.heap.size, 0, #[], rfl, hb, heap_alloc_new W _, Nat.le_refl _, Nat.zero_le _, rfl, rfl⟩⟩
theorem own0a (W : World) (o : Obj) (base : Nat) (hb : base ≤ W.heap.size) : ((W.alloc (.cells #[] 144)).alloc o).drew.ownsRow base 144 9 (.slice (some ⟨W.heap.size, 0, none⟩) 0 0) 0 [] := (World.ownsRow.alloc (own0 W base hb) o)
theorem own0b (W : World) (o : Obj) (base : Nat) (hb : base ≤ W.heap.size) : ((W.alloc o).alloc (.cells #[] 144)).drew.ownsRow base 144 9 (.slice (some ⟨W.heap.size + 1, 0, none⟩) 0 0) 0 [] := by
  have := own0 (W.alloc o) base (by simp; omega)
  rw [show (W.alloc o).heap.size = W.heap.size + 1 by simp] at this
  exact this
theorem bA (W : World) (o : Obj) : Below W.heap.size W (W.alloc o).drew := ((Below.refl _ W).alloc (Nat.le_refl _) o).drew
theorem bB (W : World) (a b : Obj) : Below W.heap.size W ((W.alloc a).alloc b).drew := (((Below.refl _ W).alloc (Nat.le_refl _) a).alloc (by simp) b).drew
theorem src_drop {w : World} {g n cap : Nat} {pts : List Pt} {f : Pt → Int} (h : PairsR w (some ⟨g, 0, none⟩) pts f) (i : Nat) : SrcQ w (some ⟨g, i * 9, none⟩) (n - i) (cap - i) (rowP f (pts.drop i)) := by
  refine .inr ⟨_, rfl, fun j u hu => ?_⟩
  rcases h with h | ⟨g', e, hg, hc⟩
  · rw [h] at hu; simp [rowP] at hu
  · injection e with e
    injection e with e
    subst e
    have hj : j < (pts.drop i).length * 9 := by
      have := (List.getElem?_eq_some_iff.1 hu).1
      rwa [rowP_len] at this
    have hp : (pts.drop i)[j / 9]? = some ((pts.drop i)[j / 9]'(by omega)) := List.getElem?_eq_getElem (by omega)
    have hp2 : pts[i + j / 9]? = some ((pts.drop i)[j / 9]'(by omega)) := by rw [List.getElem?_drop] at hp; exact hp
    have e := rowP_get f (pts.drop i) (j / 9) (j % 9) _ hp (by omega)
    rw [show j / 9 * 9 + j % 9 = j by omega, hu] at e
    have e2 := hc (i + j / 9) _ hp2 (j % 9) (by omega)
    rw [Addr.add_mid, show i * 9 + j = (i + j / 9) * 9 + j % 9 by omega, e2, ← e]
theorem src_dropI {w : World} {g n cap : Nat} {pts : List Pt} {f : Pt → Int} (h : PairsR w (some ⟨g, 0, none⟩) pts f) (hn : pts.length = n) (hc : n ≤ cap) (i : Nat) : SrcQ w (if cap = i then some ⟨g, 0, none⟩ else some ⟨g, i * 9, none⟩) (n - i) (cap - i) (rowP f (pts.drop i)) := by
  by_cases e : cap = i
  · rw [if_pos e]
    refine .inr ⟨_, rfl, fun j u hu => ?_⟩
    rw [List.drop_eq_nil_of_le (by omega)] at hu
    simp [rowP] at hu
  · rw [if_neg e]
    exact src_drop h i
theorem blkA (W : World) (o o2 : Obj) : ((W.alloc o2).alloc o).drew.heap[W.heap.size + 1]? = some o := by
  have := heap_alloc_new (W.alloc o2) o
  rw [show (W.alloc o2).heap.size = W.heap.size + 1 by simp] at this
  exact this
theorem blkB (W : World) (o o2 : Obj) : ((W.alloc o).alloc o2).drew.heap[W.heap.size]? = some o := (heap_alloc_old (W.alloc o) o2 (by simp)).trans (heap_alloc_new W o)
theorem rowP_congr {f g : Pt → Int} : ∀ (l : List Pt), (∀ q ∈ l, f q = g q) → rowP f l = rowP g l
  | [], _ => rfl
  | x :: r, h => by
    show encP f x ++ rowP f r = encP g x ++ rowP g r
    rw [rowP_congr r fun q hq => h q (List.mem_cons_of_mem _ hq)]
    unfold encP
    rw [h x List.mem_cons_self]
theorem rowP_app (f : Pt → Int) (l m : List Pt) : rowP f (l ++ m) = rowP f l ++ rowP f m := by simp [rowP]
theorem rowP_put (f : Pt → Int) (p : Pt) (id : Int) (pts : List Pt) (hp : p ∉ pts) : rowP (updF f p id) (putL p pts) = rowP f (pts.take (plc p pts)) ++ (p.cells ++ [Value.int .i64 id]) ++ rowP f (pts.drop (plc p pts)) := by
  unfold putL
  rw [rowP_app]
  have e1 : rowP (updF f p id) (pts.take (plc p pts)) = rowP f (pts.take (plc p pts)) := rowP_congr _ fun q hq => by rw [updF, if_neg fun e => hp (by rw [← e]; exact List.mem_of_mem_take hq)]
  have e2 : rowP (updF f p id) (pts.drop (plc p pts)) = rowP f (pts.drop (plc p pts)) := rowP_congr _ fun q hq => by rw [updF, if_neg fun e => hp (by rw [← e]; exact List.mem_of_mem_drop hq)]
  have e3 : rowP (updF f p id) (p :: pts.drop (plc p pts)) = (p.cells ++ [Value.int .i64 id]) ++ rowP f (pts.drop (plc p pts)) := by
    show encP (updF f p id) p ++ rowP (updF f p id) (pts.drop (plc p pts)) = _
    rw [e2]
    unfold encP
    rw [updF, if_pos rfl]
  rw [e1, e3]
  simp only [List.append_assoc]
theorem rowP_one (f : Pt → Int) (l : List Pt) : ∀ u ∈ rowP f l, u.oneCell' = true := fun u hu => by
  obtain ⟨q, _, hq⟩ := List.mem_flatMap.1 hu
  exact encP_one f q u hq
theorem ri_set {w w1 w2 : World} {Y n cap : Nat} {A : Option Addr} {u : Value} {pts : List Pt} {f : Pt → Int} (hb : Below w.heap.size w w1) (hk : Below w1.heap.size w1 w2) (hY : Y < w1.heap.size) (hf : w1.frozen? ⟨Y, 0, none⟩ = false) (hc : w1.cell? ⟨Y, 0, none⟩ = some u) (ho : w2.ownsRow w1.heap.size 144 9 (.slice A n cap) n (rowP f pts)) (ha : Asc pts) (hl : pts.length = n) :
    RI (w2.setCell ⟨Y, 0, none⟩ (.slice A n cap)) Y A n cap pts f ∧ FrX w (w2.setCell ⟨Y, 0, none⟩ (.slice A n cap)) Y := by
  have hg := grown_set w2 Y 0 (.slice A n cap)
  have hne : (Value.slice A n cap).ownBlock ≠ some Y := fun e => by have := (World.ownsRow.lt ho _ e).1; omega
  have ho2 := World.ownsRow.kept ho hg (.inr hne)
  obtain ⟨h1, h2⟩ := pairsR_own ho2 hl
  refine ⟨⟨ha, hl, h2, by simp; have := hk.size; omega, ?_, ?_, ?_, h1⟩, ⟨hk.os.trans hb.os, hk.tape.trans hb.tape, hk.output.trans hb.output, Nat.le_trans hb.size (by simp; exact hk.size), fun j hj hjY => ?_⟩⟩
  · rw [World.frozen?_setCell, World.frozen?_of_block (a := ⟨Y, 0, none⟩) (hk.block Y hY)]; exact hf
  · exact World.cell?_setCell_same _ _ _ (by rw [hk.cell (p := ⟨Y, 0, none⟩) hY]; exact hc)
  · rcases ho.2 with ⟨e, _⟩ | ⟨g, cap', cur, e, _⟩
    · injection e with e1 e2 e3; exact .inl ⟨e1, e3⟩
    · injection e with e1 e2 e3; exact .inr ⟨g, e1⟩
  · exact ((hg.block j (by have := hk.size; have := hb.size; omega) (fun e => hjY (by injection e))).trans (hk.block j (by have := hb.size; omega))).trans (hb.block j hj)
def RetRPut (Y n : Nat) (pts : List Pt) (f : Pt → Int) (p : Pt) (id : Int) (w : World) (e : Ending) (w' : World) : Prop := (p ∈ pts ∧ e = .returned (.bool false) ∧ Below w.heap.size w w') ∨ (p ∉ pts ∧ e = .returned (.bool true) ∧ (∃ A' cap', RI w' Y A' (n + 1) cap' (putL p pts) (updF f p id)) ∧ FrX w w' Y)
theorem src_take {w : World} {A : Option Addr} {n cap : Nat} {pts : List Pt} {f : Pt → Int} (h : PairsR w A pts f) (hA : (A = none ∧ cap = 0) ∨ ∃ g, A = some ⟨g, 0, none⟩) (hn : pts.length = n) (hc : n ≤ cap) (i : Nat) (hi : i ≤ n) : SrcQ w A i cap (rowP f (pts.take i)) := by
  cases A with
  | none =>
    have h0 := (hA.resolve_right (fun ⟨g, e⟩ => by cases e)).2
    refine .inl ⟨rfl, by omega, h0, ?_⟩
    have : pts = [] := List.length_eq_zero_iff.1 (by omega)
    rw [this]; simp [rowP]
  | some ad =>
    refine .inr ⟨ad, rfl, fun j u hu => ?_⟩
    rcases h with h | ⟨g, e, hg, hc⟩
    · rw [h] at hu; simp [rowP] at hu
    · injection e with e
      subst e
      have hj : j < (pts.take i).length * 9 := by
        have := (List.getElem?_eq_some_iff.1 hu).1
        rwa [rowP_len] at this
      have hl : (pts.take i).length = i := by rw [List.length_take]; omega
      have hp : (pts.take i)[j / 9]? = some ((pts.take i)[j / 9]'(by omega)) := List.getElem?_eq_getElem (by omega)
      have hp2 : pts[j / 9]? = some ((pts.take i)[j / 9]'(by omega)) := by rw [List.getElem?_take, if_pos (by omega)] at hp; exact hp
      have e := rowP_get f (pts.take i) (j / 9) (j % 9) _ hp (by omega)
      rw [show j / 9 * 9 + j % 9 = j by omega, hu] at e
      have e2 := hc (j / 9) _ hp2 (j % 9) (by omega)
      rw [show j / 9 * 9 + j % 9 = j by omega] at e2
      rw [Addr.add_mid, Nat.zero_add, e2, ← e]
end Go.Proofs.Ytjdecoiciecfpaa
