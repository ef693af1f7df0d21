/- Contracts, joined: WMeth, JWrite. -/
import Derived.Test.YtldgjahpmlafgaaGreatJRead
import Derived.Deep.RegionLaw
import Derived.Lib.ConvBytes
import Derived.Test.YtldgjahpmlafgaaGreatJParse
import Derived.Deep.RegionHeld3
namespace Go.Proofs.YtldgjahpmlafgaaGreat
section
open Go.RowKit

/-- A method returns val; behind it l' is left and e' the first error. -/
def Meth (R D : Nat) (val : Value) (l' : List Nat) (e' : Int) (w : World) (en : Ending) (w' : World) : Prop := en = .returned val ∧ w.grownBy w' (some R) ∧ ∃ A' n' cap', RdAt w' R D l' e' A' n' cap'
/-- The same, and val holds the bytes x. -/
def MethB (R D : Nat) (x l' : List Nat) (e' : Int) (w : World) (en : Ending) (w' : World) : Prop := ∃ val, NewL w x val w' ∧ Meth R D val l' e' w en w'
set_option maxRecDepth 100000 in
theorem make_func (fn : Fn) (first cap : Array Value) (w : World) : (Instr.makeFunc fn first cap).run Tryz.prog w = .ok (.func fn first cap) w := rfl
section
variable (R D : Nat) (l : List Nat) (A : Option Addr) (n cap : Nat) (w : World)
set_option maxRecDepth 100000 in
theorem two_kept {w w1 : World} {R : Nat} (hR : R < w.heap.size) {o1 o2 : Array Value} {t1 t2 : TypeId} (hg : ((w.alloc (.cells o1 t1)).alloc (.cells o2 t2)).grownBy w1 (some R)) :
    (∀ i, w1.cell? ⟨w.heap.size, i, none⟩ = o1[i]?) ∧ (∀ i, w1.frozen? ⟨w.heap.size, i, none⟩ = false) ∧ (∀ i, w1.cell? ⟨w.heap.size + 1, i, none⟩ = o2[i]?) ∧ (∀ i, w1.frozen? ⟨w.heap.size + 1, i, none⟩ = false) ∧ w.heap.size + 1 < w1.heap.size := by
  have hs := hg.size
  simp only [World.size_alloc] at hs
  refine ⟨fun i => ?_, fun i => ?_, fun i => ?_, fun i => ?_, by omega⟩
  · rw [cell_kept hg (by simp only [World.size_alloc]; omega) (by simp; omega), World.cell?_alloc_past _ _ _ (by simp), World.cell?_alloc_new]
  · rw [frozen_kept hg (by simp only [World.size_alloc]; omega) (by simp; omega), World.frozen?_alloc_past _ _ _ (by simp), World.frozen?_alloc_new]
  · rw [cell_kept hg (by simp only [World.size_alloc]; omega) (by simp; omega)]
    have := World.cell?_alloc_new (w.alloc (.cells o1 t1)) o2 t2 i
    rwa [World.size_alloc] at this
  · rw [frozen_kept hg (by simp only [World.size_alloc]; omega) (by simp; omega)]
    have := World.frozen?_alloc_new (w.alloc (.cells o1 t1)) o2 t2 i
    rwa [World.size_alloc] at this
set_option maxRecDepth 100000 in
theorem one_kept {w w1 : World} {row : Option Nat} {o1 : Array Value} {t1 : TypeId} (hr : row ≠ some w.heap.size) (hg : (w.alloc (.cells o1 t1)).grownBy w1 row) :
    (∀ i, w1.cell? ⟨w.heap.size, i, none⟩ = o1[i]?) ∧ (∀ i, w1.frozen? ⟨w.heap.size, i, none⟩ = false) ∧ w.heap.size < w1.heap.size := by
  have hs := hg.size
  simp only [World.size_alloc] at hs
  refine ⟨fun i => ?_, fun i => ?_, by omega⟩
  · rw [cell_kept hg (by simp only [World.size_alloc]; omega) (Ne.symm hr), World.cell?_alloc_new]
  · rw [frozen_kept hg (by simp only [World.size_alloc]; omega) (Ne.symm hr), World.frozen?_alloc_new]
end
end
section
/- The reader of package wire as a machine over lists of bytes. -/
section
open Go.RowKit

/-- Of an element: its error E, and the bytes K that it takes. What is left behind it, the first error behind it, and what is returned. -/
def stL (E : Int) (K : Nat) (l : List Nat) (e : Int) : List Nat := if e = 0 ∧ E = 0 then l.drop K else l
def stE (E e : Int) : Int := if e = 0 then E else e
def pick {α : Type} (E e : Int) (z v : α) : α := if e = 0 ∧ E = 0 then v else z
def uE (k : Int) (l : List Nat) : Int := if k < 1 ∨ 4 < k then 4 else if l.length < k.toNat then 1 else 0
def uV (k : Int) (l : List Nat) : Int := (num (l.take k.toNat) : Nat)
def bE (l : List Nat) : Int := if l.length < 1 then 1 else if 1 < num (l.take 1) then 2 else 0
def bV (l : List Nat) : Bool := num (l.take 1) == 1
def cE (most : Int) (l : List Nat) : Int := if l.length < 2 then 1 else if most < (num (l.take 2) : Int) then 3 else 0
def cV (l : List Nat) : Int := (num (l.take 2) : Nat)
def sE (most : Int) (l : List Nat) : Int := if l.length < 2 then 1 else if most < (num (l.take 2) : Int) then 3 else if l.length - 2 < num (l.take 2) then 1 else 0
def sX (l : List Nat) : List Nat := (l.drop 2).take (num (l.take 2))
def sK (l : List Nat) : Nat := 2 + num (l.take 2)
def tE (most : Int) (l : List Nat) : Int := if sE most l = 0 then (if plain (sX l) = true then 0 else 2) else sE most l
def vX (l : List Nat) : List Nat := (l.drop 1).take (num (l.take 1))
def vE (l : List Nat) : Int := if l.length < 1 then 1 else if num (l.take 1) < 1 ∨ 16 < num (l.take 1) then 2 else if l.length - 1 < num (l.take 1) then 1 else if pE (vX l) = 0 then 0 else 5
def vK (l : List Nat) : Nat := 1 + num (l.take 1)

set_option maxRecDepth 100000 in
theorem stL_err {E : Int} {K : Nat} {l : List Nat} {e : Int} (h : e ≠ 0) : stL E K l e = l := by simp [stL, h]
set_option maxRecDepth 100000 in
theorem stE_err {E e : Int} (h : e ≠ 0) : stE E e = e := by simp [stE, h]
set_option maxRecDepth 100000 in
theorem pick_err {α : Type} {E e : Int} {z v : α} (h : e ≠ 0) : pick E e z v = z := by simp [pick, h]
set_option maxRecDepth 100000 in
theorem stL_bad {E : Int} {K : Nat} {l : List Nat} (h : E ≠ 0) : stL E K l 0 = l := by simp [stL, h]
set_option maxRecDepth 100000 in
theorem stE_0 {E : Int} : stE E 0 = E := by simp [stE]
set_option maxRecDepth 100000 in
theorem pick_bad {α : Type} {E : Int} {z v : α} (h : E ≠ 0) : pick E 0 z v = z := by simp [pick, h]
set_option maxRecDepth 100000 in
theorem stL_ok {E : Int} {K : Nat} {l : List Nat} (h : E = 0) : stL E K l 0 = l.drop K := by simp [stL, h]
set_option maxRecDepth 100000 in
theorem pick_ok {α : Type} {E : Int} {z v : α} (h : E = 0) : pick E 0 z v = v := by simp [pick, h]
set_option maxRecDepth 100000 in
theorem beq_of {e : Int} (h : e ≠ 0) : (e == 0) = false := by simpa using h

section
variable (R D : Nat) (l : List Nat) (A : Option Addr) (n cap : Nat) (w : World)
/-- What Bytes returns: the bytes x, or nil. -/
def MethS (R D : Nat) (x l' : List Nat) (e' : Int) (w : World) (en : Ending) (w' : World) : Prop :=
  ∃ A n cap g, ReadsL w' g A x ∧ w.heap.size ≤ g ∧ Hid (n = x.length) ∧ Meth R D (.slice A n cap) l' e' w en w'
end
end
/- New, Left, Err, Finish of package wire. -/
section
open Go.RowKit

/-- The call returns a new reader of the bytes l. -/
def RetRW (l : List Nat) (w : World) (en : Ending) (w' : World) : Prop :=
  ∃ R D A n cap, en = .returned (.pointer (some ⟨R, 0, none⟩)) ∧ w.heap.size ≤ R ∧ w.heap.size ≤ D ∧ RdAt w' R D l 0 A n cap ∧ Below w.heap.size w w'
section
variable (R D : Nat) (l : List Nat) (A : Option Addr) (n cap : Nat) (w : World)
/-- What Finish says. -/
def fE (l : List Nat) (e : Int) : Int := if e = 0 ∧ 0 < l.length then 2 else e
end
end
/- Numbers appended: by package wire and by the reference. -/
section
open Go.RowKit

/-- Byte i of the number n. -/
def byteAt (n : Int) (i : Nat) : Nat := (n / 2 ^ (8 * i) % 256).toNat
/-- The first j bytes of the k low bytes of n, the highest first. -/
def encT (n : Int) (k : Nat) : Nat → List Nat
  | 0 => []
  | j + 1 => encT n k j ++ [byteAt n (k - 1 - j)]
def encU (n : Int) (k : Nat) : List Nat := encT n k k
set_option maxRecDepth 100000 in
theorem encT_len (n : Int) (k : Nat) : ∀ j, (encT n k j).length = j
  | 0 => rfl
  | j + 1 => by rw [encT, List.length_append, encT_len n k j]; rfl
set_option maxRecDepth 100000 in
theorem encU_len (n : Int) (k : Nat) : (encU n k).length = k := encT_len n k k
set_option maxRecDepth 100000 in
theorem byteAt_lt (n : Int) (i : Nat) : byteAt n i < 256 := by unfold byteAt; omega
set_option maxRecDepth 100000 in
theorem encT_small (n : Int) (k : Nat) : ∀ j, Small (encT n k j)
  | 0 => Small.nil
  | j + 1 => (encT_small n k j).append fun x hx => by rw [List.mem_singleton.1 hx]; exact byteAt_lt n _
set_option maxRecDepth 100000 in
theorem encU_small (n : Int) (k : Nat) : Small (encU n k) := encT_small n k k

/-- The slice v is a row of one's own, not below block B, and holds the bytes l. -/
def Own (w : World) (B : Nat) (v : Value) (l : List Nat) : Prop := w.ownsRow B 5 1 v l.length (cellsOf l)
/-- Where the row of v' is that grew out of v: in the same block, or in a new one. -/
def At (w : World) (v v' : Value) : Prop := v'.ownBlock = v.ownBlock ∨ ∃ g, v'.ownBlock = some g ∧ w.heap.size ≤ g
/-- The call returns the row v grown to l. -/
def Grows (B : Nat) (l : List Nat) (v : Value) (w : World) (en : Ending) (w' : World) : Prop := ∃ v', en = .returned v' ∧ Own w' B v' l ∧ w.grownBy w' v.ownBlock ∧ At w v v'
set_option maxRecDepth 100000 in
theorem Own.base {w : World} {B : Nat} {v : Value} {l : List Nat} (h : Own w B v l) {B' : Nat} (hb : B' ≤ B) : Own w B' v l := World.ownsRow.mono h hb
set_option maxRecDepth 100000 in
theorem Own.kept {w w' : World} {B : Nat} {v : Value} {l : List Nat} {row : Option Nat} (h : Own w B v l) (hg : w.grownBy w' row) (hr : v.ownBlock = none ∨ v.ownBlock ≠ row) : Own w' B v l := World.ownsRow.kept h hg hr
set_option maxRecDepth 100000 in
theorem Own.below {w w' : World} {B : Nat} {v : Value} {l : List Nat} (h : Own w B v l) (hb : Below w.heap.size w w') : Own w' B v l :=
  h.kept (grown_of_below hb none) (by cases v.ownBlock <;> simp)
set_option maxRecDepth 100000 in
/-- A row that grew out of v, or v: a step of grownBy composes. -/
theorem grown_step {w w1 w2 : World} {v v1 : Value} (h : w.grownBy w1 v.ownBlock) (ha : At w v v1) (k : w1.grownBy w2 v1.ownBlock) : w.grownBy w2 v.ownBlock :=
  h.andThen k fun j hj => by
    rcases ha with e | ⟨g, e, hg⟩
    · exact .inr (by rw [← e, hj])
    · rw [e] at hj
      injection hj with hj
      exact .inl (by omega)
set_option maxRecDepth 100000 in
theorem At.step {w w1 : World} {row : Option Nat} {v v1 v2 : Value} (h : w.grownBy w1 row) (ha : At w v v1) (k : At w1 v1 v2) : At w v v2 := by
  rcases k with e | ⟨g, e, hg⟩
  · rcases ha with e1 | ⟨g1, e1, hg1⟩
    · exact .inl (e.trans e1)
    · exact .inr ⟨g1, e.trans e1, hg1⟩
  · exact .inr ⟨g, e, Nat.le_trans h.size hg⟩

set_option maxRecDepth 100000 in
theorem Own.snoc {w : World} {B : Nat} {v : Value} {l : List Nat} {x : Int} {y : Nat} (h : w.ownsRow B 5 1 v (l.length + 1) (cellsOf l ++ [.int .u8 x])) (hx : (y : Int) = x) : Own w B v (l ++ [y]) := by
  subst hx
  unfold Own
  rw [cellsOf_append, List.length_append]
  exact h
set_option maxRecDepth 100000 in
theorem byteAt_int (n : Int) (i : Nat) : (byteAt n i : Int) = n / 2 ^ (8 * i) % 256 := by
  unfold byteAt
  rw [Int.toNat_of_nonneg (Int.emod_nonneg _ (by decide))]
end
/- append of bytes that can be read (none, nil or more) to a row of one's own. -/
section
open Go.RowKit

set_option maxRecDepth 100000 in
theorem Own.more {w : World} {B : Nat} {v : Value} {l x : List Nat} {n2 : Nat} (h : w.ownsRow B 5 1 v (l.length + n2) (cellsOf l ++ cellsOf x)) (hx : x.length = n2) : Own w B v (l ++ x) := by
  subst hx
  unfold Own
  rw [cellsOf_append, List.length_append]
  exact h
set_option maxRecDepth 100000 in
theorem run_app {w : World} {B D n2 cap2 : Nat} {v : Value} {A2 : Option Addr} {l x : List Nat} (ty : TypeId) (hO : Own w B v l) (hr : ReadsL w D A2 x) (hx : x.length = n2) (hl : l.length + n2 ≤ 100000000) (hB : B ≤ w.heap.size) :
    ∃ v' w', (Builtin.append_ #[22, 22] ty #[v, .slice A2 n2 cap2]).run Tryz.prog w = .ok v' w' ∧ Own w' B v' (l ++ x) ∧ w.grownBy w' v.ownBlock ∧ At w v v' := by
  obtain ⟨i0, hi0, hz0, hy1, hy2⟩ := info_parts info_w8
  rcases A2 with _ | ad
  · have h0 : x = [] := hr.resolve_right (fun ⟨_, h, _⟩ => by cases h)
    subst h0
    obtain rfl : n2 = 0 := hx.symm
    refine ⟨v, w, ?_, by simpa using hO, World.grownBy.refl _ _, .inl rfl⟩
    rcases hO.2 with ⟨rfl, _⟩ | ⟨g, cap, cur, rfl, _, _, hnc, _⟩
    · simp [Builtin.append_, run_underlying Tryz.underlying22, sizeOf, typeInfo, hi0, Builtin.lenOf, Builtin.firstCells]
    · simp [Builtin.append_, run_underlying Tryz.underlying22, sizeOf, typeInfo, hi0, Builtin.lenOf, Builtin.firstCells, hnc, storeCells]
  · have hcells : ∀ j u, (cellsOf x)[j]? = some u → w.cell? (ad.add j) = some u := by
      intro j u hu
      have hj : j < x.length := by have := (List.getElem?_eq_some_iff.1 hu).1; rwa [cellsOf_len] at this
      rcases hr with h0 | ⟨o, he, hd, hc⟩
      · rw [h0] at hj; simp at hj
      · injection he with he
        subst he
        rw [cellsOf_get hj] at hu
        rw [Addr.add_mid, hc j hj, hu]
    obtain ⟨v', w', hrun, h2, h3, _, h5⟩ := run_append_own_at (P := Tryz.prog) w B 22 ty 5 i0 _ 1 1 Tryz.underlying22 hi0 hz0 hy1 hy2 rfl (by omega) v l.length (cellsOf l) hO ad n2 cap2 (cellsOf x) (by rw [cellsOf_len, hx, Nat.mul_one]) hcells (cellsOf_one x) (by unfold maxLen; omega) (by omega) hB
    exact ⟨v', w', hrun, Own.more h2 hx, h3, h5.imp id fun e => ⟨_, e, Nat.le_refl _⟩⟩
theorem wpList_app {w : World} {ops : Array Oper} {rest : List Oper} {o : Oper} {a : Act} {Q : Exit → Act → World → Prop} (hgd : o.guard = none) (s x : Operand)
    (ho : o.op = .call { callee := .builtin .append, args := #[s, x], argTypes := #[22, 22] })
    {B D n2 cap2 : Nat} {v : Value} {A2 : Option Addr} {l xs : List Nat} (hs : a.eval s = v) (hO : Own w B v l) (hx : a.eval x = .slice A2 n2 cap2) (hr : ReadsL w D A2 xs) (hxl : xs.length = n2) (hl : l.length + n2 ≤ 100000000) (hB : B ≤ w.heap.size)
    (h : ∀ v' w', Own w' B v' (l ++ xs) → w.grownBy w' v.ownBlock → At w v v' → wpList Tryz.prog ops Q rest (a.put o.dst v') w') : wpList Tryz.prog ops Q (o :: rest) a w := by
  refine wpList_plain hgd fun K hK => ?_
  obtain ⟨v', w', hrun, h2, h3, h4⟩ := run_app (cap2 := cap2) o.type hO hr hxl hl hB
  unfold Oper.wp execOp
  simp only [ho, resolve, invoke, builtin, Sem.run_bind, Sem.run_pure, Result.andThen_ok, List.map_toArray, List.map_cons, List.map_nil, hs, hx, hrun]
  exact hK _ _ (h v' w' h2 h3 h4)
theorem step_app {w : World} {ops : Array Oper} {o : Oper} {a : Act} {K : Act → World → Prop} {Q : Exit → Act → World → Prop} {E : Prop} (hgd : o.guard = none) (s x : Operand)
    (ho : o.op = .call { callee := .builtin .append, args := #[s, x], argTypes := #[22, 22] })
    {B D n2 cap2 : Nat} {v : Value} {A2 : Option Addr} {l xs : List Nat} (hs : a.eval s = v) (hO : Own w B v l) (hx : a.eval x = .slice A2 n2 cap2) (hr : ReadsL w D A2 xs) (hxl : xs.length = n2) (hl : l.length + n2 ≤ 100000000) (hB : B ≤ w.heap.size)
    (h : ∀ v' w', Own w' B v' (l ++ xs) → w.grownBy w' v.ownBlock → At w v v' → K (a.put o.dst v') w') :
    if Region.wanted o (yielded ops a.tmps) = true then Oper.wp Tryz.prog o a w K Q else E := by
  have hw : Region.wanted o (yielded ops a.tmps) = true := by simp [Region.wanted, hgd]
  rw [if_pos hw]
  obtain ⟨v', w', hrun, h2, h3, h4⟩ := run_app (cap2 := cap2) o.type hO hr hxl hl hB
  unfold Oper.wp execOp
  simp only [ho, resolve, invoke, builtin, Sem.run_bind, Sem.run_pure, Result.andThen_ok, List.map_toArray, List.map_cons, List.map_nil, hs, hx, hrun]
  exact h v' w' h2 h3 h4
end
/- The functions of package wire that append. -/
section
open Go.RowKit

/-- The call returns a slice that holds the bytes l, in a block of its own; nothing that there was is changed. -/
def RetSW (l : List Nat) (w : World) (en : Ending) (w' : World) : Prop :=
  ∃ A n cap g, en = .returned (.slice A n cap) ∧ Hid (n = l.length) ∧ ReadsL w' g A l ∧ w.heap.size ≤ g ∧ g < w'.heap.size ∧ Below w.heap.size w w'
set_option maxRecDepth 100000 in
theorem Own.of {w : World} {B : Nat} {A : Option Addr} {n cap : Nat} {l : List Nat} (hn : n = l.length) (h : w.ownsRow B 5 1 (.slice A n cap) n (cellsOf l)) : Own w B (.slice A n cap) l := by
  subst hn
  exact h
set_option maxRecDepth 100000 in
theorem Own.retS {w w' : World} {v : Value} {l : List Nat} (h : Own w' w.heap.size v l) (hlt : w.heap.size < w'.heap.size) (hb : Below w.heap.size w w') : RetSW l w (.returned v) w' := by
  rcases h.2 with ⟨rfl, h0⟩ | ⟨g, cap, cur, rfl, hg, hh, hn, hc, hsz, htake⟩
  · obtain rfl : l = [] := List.eq_nil_of_length_eq_zero h0
    exact ⟨none, 0, 0, w.heap.size, rfl, Lib.hid rfl, .inl rfl, Nat.le_refl _, hlt, hb⟩
  · have hgl : g < w'.heap.size := by
      rcases Nat.lt_or_ge g w'.heap.size with h | h
      · exact h
      · rw [Array.getElem?_eq_none h] at hh; cases hh
    refine ⟨_, _, _, g, rfl, Lib.hid rfl, .inr ⟨0, rfl, hgl, fun i hi => ?_⟩, hg, hgl, hb⟩
    rw [Nat.zero_add, World.ownsRow.cellAt h i (by omega), cellsOf_get hi]
set_option maxRecDepth 100000 in
/-- A new block, and rows of one's own above it: nothing that there was is changed. -/
theorem grown_of {w w1 w2 : World} {v : Value} (hlt : ∀ k, v.ownBlock = some k → w.heap.size ≤ k ∧ k < w1.heap.size) (hb : Below w.heap.size w w1) (hg : w1.grownBy w2 v.ownBlock) : w.grownBy w2 none :=
  (grown_of_below hb none).andThen hg fun j hj => .inl (hlt j hj).1
set_option maxRecDepth 100000 in
theorem encU_1 : encU 1 1 = [1] := by decide +kernel
set_option maxRecDepth 100000 in
theorem encU_0 : encU 0 1 = [0] := by decide +kernel

section
variable (A : Option Addr) (D n cap : Nat) (l : List Nat) (w : World)
/-- The canonical bytes of a. -/
def blW (a : Nat) : List Nat := (List.range (nb a)).map (gb a)
set_option maxRecDepth 100000 in
theorem blW_len (a : Nat) : (blW a).length = nb a := by simp [blW]
set_option maxRecDepth 100000 in
theorem bl_get (a i : Nat) (h : i < nb a) : (blW a).getD i 0 = gb a i := by
  rw [List.getD_eq_getElem?_getD, blW, List.getElem?_map, List.getElem?_range h]
  rfl
set_option maxRecDepth 100000 in
theorem bl_small (a : Nat) : Small (blW a) := fun x hx => by
  obtain ⟨i, _, rfl⟩ := List.mem_map.1 hx
  exact gb_lt a i
set_option maxRecDepth 100000 in
theorem reads_bl {w : World} {b a : Nat} (h : ReadsB w (some ⟨b, 0, none⟩) (nb a) (gb a)) : ReadsL w b (some ⟨b, 0, none⟩) (blW a) ∧ b < w.heap.size := by
  obtain ⟨b', o, he, hb, hc, _⟩ := h.resolve_left (by have := nb_pos a; omega)
  simp only [Option.some.injEq, Addr.mk.injEq, and_true] at he
  obtain ⟨rfl, rfl⟩ := he
  refine ⟨.inr ⟨0, rfl, hb, fun i hi => ?_⟩, hb⟩
  rw [blW_len] at hi
  rw [hc i hi, bl_get a i hi]
end
end
/- Strings turned into bytes; AppendText. -/
section
open Go.RowKit Go.Lib

set_option maxRecDepth 100000 in
theorem strN_data (ns : List Int) : ∀ (s : ByteArray), (ns.foldl (fun r n => r.push (UInt8.ofNat n.toNat)) s).data.toList = s.data.toList ++ ns.map fun n => UInt8.ofNat n.toNat := by
  induction ns with
  | nil => simp
  | cons x t ih =>
    intro s
    rw [List.foldl_cons, ih]
    simp
set_option maxRecDepth 100000 in
theorem strL_data (l : List Nat) : (strL l).data.toList = l.map fun x => UInt8.ofNat x := by
  rw [strL, strN, strN_data]
  simp only [List.map_map]
  rfl
set_option maxRecDepth 100000 in
theorem strL_size (l : List Nat) : (strL l).size = l.length := by
  rw [ByteArray.size, ← Array.length_toList, strL_data, List.length_map]
set_option maxRecDepth 100000 in
/-- '[]byte(s)' of the string of the bytes l: a new block that reads so. -/
theorem conv_str (w : World) (l : List Nat) (hs : Small l) : ∃ cap W, (convert 9 22 (.string (strL l))).run Tryz.prog w = .ok (.slice (some ⟨w.heap.size, 0, none⟩) l.length cap) W ∧
    ReadsL W w.heap.size (some ⟨w.heap.size, 0, none⟩) l ∧ Below w.heap.size w W ∧ w.heap.size < W.heap.size ∧ l.length ≤ cap := by
  refine ⟨grownCap w (strL l).size 0 5, bytesWorld w 5 (strL l), ?_, .inr ⟨0, rfl, ?_, fun i hi => ?_⟩, ?_, ?_, ?_⟩
  · have h := Go.Lib.run_convert_string_bytes w 9 22 5 (strL l) Tryz.underlying9 Tryz.underlying22 Tryz.underlying5
    rwa [strL_size] at h ⊢
  · rw [bytesWorld_size]; omega
  · rw [Nat.zero_add, bytesWorld_cell w _ _ i (by rw [strL_size]; exact hi), strL_data]
    have : (l.map fun x => UInt8.ofNat x).getD i 0 = UInt8.ofNat (l.getD i 0) := by
      rw [List.getD_eq_getElem?_getD, List.getElem?_map, List.getD_eq_getElem?_getD, List.getElem?_eq_getElem hi]
      rfl
    rw [this]
    have h := hs.getD i
    have e : (UInt8.ofNat (l.getD i 0)).toNat = l.getD i 0 := (UInt8.toNat_ofNat' ..).trans (Nat.mod_eq_of_lt h)
    rw [e]
  · exact ⟨rfl, rfl, rfl, by rw [bytesWorld_size]; omega, fun k hk => bytesWorld_at_old w _ _ k hk⟩
  · rw [bytesWorld_size]; omega
  · have := grownCap_ge w (strL l).size 0 5
    rwa [strL_size] at this ⊢

section
variable (A : Option Addr) (D n cap : Nat) (l : List Nat) (w : World)
end
end
/- The reference's functions that append. -/
section
open Go.RowKit

set_option maxRecDepth 100000 in
/-- An append of one byte, out of a block that was made for it. -/
theorem reads_one (w : World) (x : Nat) (t : TypeId) : ReadsL (w.alloc (.cells #[.int .u8 x] t)) w.heap.size (some ⟨w.heap.size, 0, none⟩) [x] :=
  .inr ⟨0, rfl, by simp, fun i hi => by
    obtain rfl : i = 0 := by simpa using hi
    rw [World.cell?_alloc_new]; rfl⟩
section
variable (v : Value) (l : List Nat) (B : Nat) (w : World)
set_option maxRecDepth 100000 in
theorem Own.alloc {w : World} {B : Nat} {v : Value} {l : List Nat} (h : Own w B v l) (o : Obj) : Own (w.alloc o) B v l := World.ownsRow.alloc h o
set_option maxRecDepth 100000 in
theorem grow_alloc {w w1 : World} {o : Obj} {v : Value} (h : (w.alloc o).grownBy w1 v.ownBlock) : w.grownBy w1 v.ownBlock := (grown_alloc w o _).trans h
set_option maxRecDepth 100000 in
theorem At.alloc {w : World} {o : Obj} {v v1 : Value} (h : At (w.alloc o) v v1) : At w v v1 := h.imp id fun ⟨g, e, hg⟩ => ⟨g, e, by simp at hg; omega⟩
set_option maxRecDepth 100000 in
theorem grown_undrew {w w1 : World} {row : Option Nat} (h : w.drew.grownBy w1 row) : w.grownBy w1 row := ⟨h.os, h.tape, h.output, h.size, h.block⟩
set_option maxRecDepth 100000 in
theorem encU_byte (x : Nat) (hx : x < 256) : encU x 1 = [x] := by
  simp only [encU, encT, byteAt, List.nil_append]
  congr 1
  simp
  omega
end
end
end
end Go.Proofs.YtldgjahpmlafgaaGreat
