/- Making a schema out of choices: roles, as data. -/
import Derived.Test.YtldgjahpmlafgaaGreatSTabP
import Derived.Deep.AppendLies
namespace Go.Proofs.YtldgjahpmlafgaaGreat
open Go.RowKit

theorem rowV_map {α β : Type} {sz B : Nat} {P : CellP β} {f : α → β} {w : World} {v : Value} {xs : List α} (h : RowV sz (fun B w cs x => P B w cs (f x)) B w v xs) : RowV sz P B w v (xs.map f) := by
  obtain ⟨A, n, cap, e1, e2, e3, e4, e5⟩ := h
  refine ⟨A, n, cap, e1, Lib.hid (by rw [List.length_map]; exact e2.out), e3, e4, e5.imp (fun e => by rw [e]; rfl) fun ⟨b, o, e6, e7⟩ => ⟨b, o, e6, fun i x hx => ?_⟩⟩
  rw [List.getElem?_map] at hx
  obtain ⟨y, hy, rfl⟩ := Option.map_eq_some_iff.1 hx
  exact e7 i y hy
theorem bools_lit {K L a b n : Nat} {W : World} (xs : List Bool) (hx : Bx K L (xs.map Value.bool) W) (ha : a ≤ L) (hb : L < b) (hn : n = xs.length) (hm : n ≤ maxLen) : RowH 1 BoolV a b W (.slice (some ⟨L, 0, none⟩) n n) xs := by
  have e : (xs.map fun x => ([Value.bool x], x)).map Prod.snd = xs := by simp [List.map_map, Function.comp_def]
  have := hx.row (P := BoolV) (sz := 1) (n := n) ha hb (xs.map fun x => ([Value.bool x], x)) (fun q hq => by obtain ⟨x, _, rfl⟩ := List.mem_map.1 hq; rfl) (by simpa using hn) hm (by rw [List.flatMap_map, List.map_eq_flatMap]) (fun q hq w2 B _ _ => by
    obtain ⟨x, hx, rfl⟩ := List.mem_map.1 hq
    exact rfl)
  rwa [e] at this
theorem info_bool : (Tryz.prog.info? 4).map (fun i => (i.zero, i.size, i.bytes)) = some (some (.bool false), 1, 1) := by kernel_rfl
theorem info_grant : (Tryz.prog.info? 185).map (fun i => (i.zero, i.size, i.bytes)) = some (some (.agg #[.int .i64 0, .bool false, .bool false, .slice none 0 0]), 4, 40) := by kernel_rfl
theorem mk_bools (n : Nat) (hn : n ≤ 1000) (W : World) : (Instr.makeSlice 86 (.int .i64 (n : Int)) (.int .i64 (n : Int))).run Tryz.prog W = .ok (.slice (some ⟨W.heap.size, 0, none⟩) n n) (W.alloc (.cells (Array.replicate n (Value.bool false)) 4)) := by
  rw [← List.toArray_replicate]
  have e : madeCells #[Value.bool false] n = (List.replicate n (Value.bool false)).toArray := by
    rw [made_row, rowA]
    congr 1
    apply List.ext_getElem
    · simp [rowL]
    · intro i h1 h2
      simp [rowL]
  rw [← e]
  exact run_make_row' 86 4 (.bool false) 1 Tryz.underlying86 info_bool rfl .i64 .i64 n (by omega) (by omega) W
theorem Bx.newR {K : Nat} {W : World} (hK : K < W.heap.size) (n : Nat) (z : Value) (t : TypeId) : Bx K W.heap.size (List.replicate n z) (W.alloc (.cells (Array.replicate n z) t)) := by
  have := Bx.new hK (List.replicate n z) t
  rwa [List.toArray_replicate] at this
/-- A grant and the slice of its keys. -/
structure GrantW where
  table : Int
  read : Bool
  write : Bool
  v : Value
  keys : List Bool
def GrantW.d (x : GrantW) : GrantD := ⟨x.table, x.read, x.write, x.keys⟩
def encGW (x : GrantW) : List Value := [.int .i64 x.table, .bool x.read, .bool x.write, x.v]
structure RolHd where
  id : Int
  name : List Nat
  va : Value
  quota : Int
  audit : Bool
def hdCells (h : RolHd) (v : Value) : List Value := [.int .i64 h.id, .string (strL h.name), v, h.va, .int .i64 h.quota, .bool h.audit]
def of3 {α : Type} (a b c : α) (i : Nat) : α :=
  match i with
  | 0 => a
  | 1 => b
  | _ => c
/-- The roles under way: three boxes, three rows of grants; beside them blocks that stay as they are. -/
structure RolL (K D B : Nat) (l : List Nat) (R : Nat → Nat) (hd : Nat → RolHd) (v : Nat → Value) (g : Nat → List GrantW) (side : List (Nat × List Value)) (w W : World) : Prop where
  KB : K < w.heap.size
  DB : l ≠ [] → D < w.heap.size
  BW : B ≤ W.heap.size
  lt : ∀ i, i < 3 → w.heap.size ≤ R i ∧ R i < B
  ne : ∀ i j, i < 3 → j < 3 → i ≠ j → R i ≠ R j
  box : ∀ i, i < 3 → Bx K (R i) (hdCells (hd i) (v i)) W
  own : ∀ i, i < 3 → W.ownsRow B 185 4 (v i) (g i).length (flat encGW (g i))
  apart : ∀ i j, i < 3 → j < 3 → i ≠ j → ∀ b, (v i).ownBlock = some b → (v j).ownBlock ≠ some b
  sides : ∀ s ∈ side, Bx K s.1 s.2 W ∧ w.heap.size ≤ s.1 ∧ (∀ i, i < 3 → s.1 ≠ R i) ∧ ∀ i, i < 3 → (v i).ownBlock ≠ some s.1
  keys : ∀ i, i < 3 → ∀ x ∈ g i, I64 x.table ∧ ∃ L, x.v = .slice (some ⟨L, 0, none⟩) x.keys.length x.keys.length ∧ x.keys.length ≤ 1000 ∧ (L, x.keys.map Value.bool) ∈ side
  co : ∃ p, CoAt K D l p W
  gr : w.grownBy W (some K)
section
variable {K D B p : Nat} {l : List Nat} {R : Nat → Nat} {hd : Nat → RolHd} {v : Nat → Value} {g : Nat → List GrantW} {side : List (Nat × List Value)} {w W W' w1 : World}
theorem RolL.chose (h : RolL K D B l R hd v g side w W) (hg : W.grownBy W' (some K)) (c : CoAt K D l p W') : RolL K D B l R hd v g side w W' := by
  have hK := h.KB
  have h0 := (h.lt 0 (by decide))
  exact ⟨h.KB, h.DB, Nat.le_trans h.BW hg.size, h.lt, h.ne, fun i hi => (h.box i hi).chose hg, fun i hi => own_chose (h.own i hi) hg (by omega), h.apart, fun s hs => ⟨(h.sides s hs).1.chose hg, (h.sides s hs).2⟩, h.keys, ⟨p, c⟩, h.gr.trans hg⟩
theorem RolL.beside (h : RolL K D B l R hd v g side w W) {L : Nat} {cs : List Value} (hb : Bx K L cs W) (hL : w.heap.size ≤ L) (hR : ∀ i, i < 3 → L ≠ R i) (hv : ∀ i, i < 3 → (v i).ownBlock ≠ some L) : RolL K D B l R hd v g ((L, cs) :: side) w W :=
  ⟨h.KB, h.DB, h.BW, h.lt, h.ne, h.box, h.own, h.apart, fun s hs => by
    rcases List.mem_cons.1 hs with rfl | hs
    · exact ⟨hb, hL, hR, hv⟩
    · exact h.sides s hs, fun i hi x hx => ⟨(h.keys i hi x hx).1, (h.keys i hi x hx).2.imp fun L h => ⟨h.1, h.2.1, List.mem_cons_of_mem _ h.2.2⟩⟩, h.co, h.gr⟩
theorem RolL.fresh (h : RolL K D B l R hd v g side w W) {L : Nat} (hL : W.heap.size ≤ L) : (∀ i, i < 3 → L ≠ R i) ∧ (∀ i, i < 3 → (v i).ownBlock ≠ some L) ∧ w.heap.size ≤ L := by
  have hB := h.BW
  refine ⟨fun i hi => ?_, fun i hi e => ?_, ?_⟩
  · have := h.lt i hi; omega
  · have := (World.ownsRow.lt (h.own i hi) L e).2; omega
  · have := h.lt 0 (by decide); omega
def put3 {α : Type} (f : Nat → α) (i : Nat) (x : α) (j : Nat) : α := if j = i then x else f j
theorem put3_same {α : Type} (f : Nat → α) (i : Nat) (x : α) : put3 f i x i = x := by simp [put3]
theorem put3_other {α : Type} (f : Nat → α) (i : Nat) (x : α) {j : Nat} (h : j ≠ i) : put3 f i x j = f j := by simp [put3, h]
/-- One more grant. -/
theorem RolL.app (h : RolL K D B l R hd v g side w W) (i : Nat) (hi : i < 3) {o : Obj} {gb cap L : Nat} (x : GrantW) (hxt : I64 x.table) (hx : x.v = .slice (some ⟨L, 0, none⟩) x.keys.length x.keys.length) (hxl : x.keys.length ≤ 1000) (hs : (L, x.keys.map Value.bool) ∈ side)
    (hO : w1.ownsRow B 185 4 (.slice (some ⟨gb, 0, none⟩) ((g i).length + 1) cap) ((g i).length + 1) (flat encGW (g i) ++ encGW x)) (hg : (W.alloc o).grownBy w1 (v i).ownBlock) (hor : (v i).ownBlock = some gb ∨ gb = W.heap.size + 1) :
    RolL K D B l R hd (put3 v i (.slice (some ⟨gb, 0, none⟩) ((g i).length + 1) cap)) (put3 g i (g i ++ [x])) side w (w1.setCell ⟨R i, 2, none⟩ (.slice (some ⟨gb, 0, none⟩) ((g i).length + 1) cap)) := by
  have hBW := h.BW
  have hKB := h.KB
  have hli := h.lt i hi
  have hsz : (W.alloc o).heap.size = W.heap.size + 1 := by simp
  have hgs := hg.size
  have hset := grown_set w1 (R i) 2 (.slice (some ⟨gb, 0, none⟩) ((g i).length + 1) cap)
  have hz : (w1.setCell ⟨R i, 2, none⟩ (.slice (some ⟨gb, 0, none⟩) ((g i).length + 1) cap)).heap.size = w1.heap.size := by simp [World.setCell]
  have hge : ∀ b, (v i).ownBlock = some b → B ≤ b ∧ b < W.heap.size := fun b e => World.ownsRow.lt (h.own i hi) b e
  -- a box that is no row of this one stays
  have stay : ∀ (M : Nat) (cs : List Value), Bx K M cs W → (v i).ownBlock ≠ some M → Bx K M cs w1 := fun M cs hb hn => (hb.alloc o).kept hg (fun e => hn e.symm)
  have new_ne : ∀ M, M < W.heap.size → (v i).ownBlock ≠ some M → (Value.slice (some ⟨gb, 0, none⟩) ((g i).length + 1) cap).ownBlock ≠ some M := by
    intro M hM hn e
    have e2 : gb = M := by simpa [Value.ownBlock] using e
    rcases hor with h1 | h1
    · exact hn (by rw [h1, e2])
    · omega
  refine ⟨h.KB, h.DB, by omega, h.lt, h.ne, fun j hj => ?_, fun j hj => ?_, fun j k hj hk hjk b hb => ?_, fun s hs => ?_, fun j hj y hy => ?_, ?_, ?_⟩
  · have hnR : (v i).ownBlock ≠ some (R j) := fun e => by have := (hge _ e).1; have := (h.lt j hj).2; omega
    by_cases e : j = i
    · subst e
      rw [put3_same]
      exact (stay _ _ (h.box j hj) hnR).set 2 _
    · rw [put3_other _ _ _ e]
      exact (stay _ _ (h.box j hj) hnR).other (h.ne j i hj hi e) 2 _
  · by_cases e : j = i
    · subst e
      rw [put3_same, put3_same, List.length_append, List.length_singleton, flat_snoc]
      exact own_setT hO hli.2
    · rw [put3_other _ _ _ e, put3_other _ _ _ e]
      refine own_setT (World.ownsRow.kept (World.ownsRow.alloc (h.own j hj) o) hg ?_) hli.2
      cases e2 : (v j).ownBlock with
      | none => exact .inl rfl
      | some b => exact .inr fun e3 => h.apart j i hj hi e b e2 e3.symm
  · by_cases e1 : j = i
    · subst e1
      rw [put3_same] at hb
      rw [put3_other _ _ _ (Ne.symm hjk)]
      intro e2
      have e3 : gb = b := by simpa [Value.ownBlock] using hb
      rcases hor with h1 | h1
      · exact h.apart j k hj hk hjk gb h1 (by rw [e2, e3])
      · have := (World.ownsRow.lt (h.own k hk) b e2).2; omega
    · rw [put3_other _ _ _ e1] at hb
      by_cases e2 : k = i
      · subst e2
        rw [put3_same]
        exact new_ne b (World.ownsRow.lt (h.own j hj) b hb).2 (h.apart j k hj hk hjk b hb)
      · rw [put3_other _ _ _ e2]
        exact h.apart j k hj hk hjk b hb
  · obtain ⟨h1, h2, h3, h4⟩ := h.sides s hs
    refine ⟨(stay _ _ h1 (h4 i hi)).other (h3 i hi) 2 _, h2, h3, fun j hj => ?_⟩
    by_cases e : j = i
    · subst e
      rw [put3_same]
      exact new_ne _ h1.lt (h4 j hj)
    · rw [put3_other _ _ _ e]
      exact h4 j hj
  · by_cases e : j = i
    · subst e
      rw [put3_same] at hy
      rcases List.mem_append.1 hy with hy | hy
      · exact h.keys j hj y hy
      · rw [List.mem_singleton.1 hy]
        exact ⟨hxt, L, hx, hxl, hs⟩
    · rw [put3_other _ _ _ e] at hy
      exact h.keys j hj y hy
  · obtain ⟨p, c⟩ := h.co
    have hKR : R i ≠ K := by omega
    refine ⟨p, ((c.kept (grown_alloc W o none) (by simp) (by simp)).kept hg (fun e => ?_) (fun e0 e => ?_)).kept hset (fun e => by injection e with e; omega) (fun e0 e => by have := h.DB e0; injection e with e; omega)⟩
    · have := (hge K e).1; omega
    · have := h.DB e0; have := (hge D e).1; omega
  · have g1 : w.grownBy w1 (some K) := by
      refine ⟨hg.os.trans (h.gr.trans (grown_alloc W o (some K))).os, hg.tape.trans (h.gr.trans (grown_alloc W o (some K))).tape, hg.output.trans (h.gr.trans (grown_alloc W o (some K))).output, Nat.le_trans (h.gr.trans (grown_alloc W o (some K))).size hgs, fun k hk hr => ?_⟩
      rw [hg.block k (by have := h.gr.size; omega) (fun e => by have := (hge k e.symm).1; omega)]
      exact (h.gr.trans (grown_alloc W o (some K))).block k hk hr
    exact grown_own g1 hli.1 2 _
end
/-- What became of the tables that were seen: the first role has all of them, the others some. -/
def gkey (x : GrantW) : Int × Nat := (x.table, x.keys.length)
def tkey (x : TableD) : Int × Nat := (x.id, x.keys.length)
def allG (x : TableD) : GrantD := ⟨x.id, true, true, List.replicate x.keys.length true⟩
def GOk (xs : List TableD) (k0 k1 k2 : Nat) (g : Nat → List GrantW) : Prop := (g 0).map GrantW.d = (xs.take k0).map allG ∧ ((g 1).map gkey).Sublist ((xs.take k1).map tkey) ∧ ((g 2).map gkey).Sublist ((xs.take k2).map tkey)
theorem take_more {xs : List TableD} {k : Nat} {x : TableD} (hx : xs[k]? = some x) : xs.take (k + 1) = xs.take k ++ [x] := by
  obtain ⟨h1, h2⟩ := List.getElem?_eq_some_iff.1 hx
  rw [List.take_succ_eq_append_getElem h1, h2]
theorem GOk.first {xs : List TableD} {k k1 k2 : Nat} {g : Nat → List GrantW} {x : TableD} {y : GrantW} (h : GOk xs k k1 k2 g) (hx : xs[k]? = some x) (hy : y.d = allG x) : GOk xs (k + 1) k1 k2 (put3 g 0 (g 0 ++ [y])) := by
  refine ⟨?_, h.2.1, h.2.2⟩
  rw [put3_same, take_more hx, List.map_append, List.map_append, h.1]
  simp [hy]
theorem GOk.second {xs : List TableD} {k k0 k2 : Nat} {g : Nat → List GrantW} {x : TableD} {y : GrantW} (h : GOk xs k0 k k2 g) (hx : xs[k]? = some x) (hy : gkey y = tkey x) : GOk xs k0 (k + 1) k2 (put3 g 1 (g 1 ++ [y])) := by
  refine ⟨h.1, ?_, h.2.2⟩
  rw [put3_same, take_more hx, List.map_append, List.map_append]
  refine List.Sublist.append h.2.1 ?_
  simp [hy]
theorem GOk.second' {xs : List TableD} {k k0 k2 : Nat} {g : Nat → List GrantW} {x : TableD} (h : GOk xs k0 k k2 g) (hx : xs[k]? = some x) : GOk xs k0 (k + 1) k2 g := by
  refine ⟨h.1, ?_, h.2.2⟩
  rw [take_more hx, List.map_append]
  exact h.2.1.trans (List.sublist_append_left _ _)
theorem GOk.third {xs : List TableD} {k k0 k1 : Nat} {g : Nat → List GrantW} {x : TableD} {y : GrantW} (h : GOk xs k0 k1 k g) (hx : xs[k]? = some x) (hy : gkey y = tkey x) : GOk xs k0 k1 (k + 1) (put3 g 2 (g 2 ++ [y])) := by
  refine ⟨h.1, h.2.1, ?_⟩
  rw [put3_same, take_more hx, List.map_append, List.map_append]
  refine List.Sublist.append h.2.2 ?_
  simp [hy]
theorem GOk.third' {xs : List TableD} {k k0 k1 : Nat} {g : Nat → List GrantW} {x : TableD} (h : GOk xs k0 k1 k g) (hx : xs[k]? = some x) : GOk xs k0 k1 (k + 1) g := by
  refine ⟨h.1, h.2.1, ?_⟩
  rw [take_more hx, List.map_append]
  exact h.2.2.trans (List.sublist_append_left _ _)
/-- The roles that were made for these tables. -/
def RolesOk (xs : List TableD) (rs : List RoleD) : Prop := ∃ (c d e f : Nat) (g1 g2 : List GrantD), c < 3 ∧ d < 6 ∧ e < 6 ∧ f < 4 ∧ (g1.map fun x => (x.table, x.keys.length)).Sublist (xs.map tkey) ∧ (g2.map fun x => (x.table, x.keys.length)).Sublist (xs.map tkey) ∧
  rs = [⟨1, [97, 108, 108], xs.map allG, [1, 2, 3, 4, 5, 6], 40, true⟩, ⟨2, [115, 111, 109, 101], g1, [1, 2, 3 + (c : Int)], 1 + (d : Int), false⟩, ⟨7, [102, 101, 119], g2, [1 + (e : Int)], (f : Int), false⟩]
def RetRoles (K D : Nat) (l : List Nat) (w : World) (xs : List TableD) (e : Ending) (w' : World) : Prop := ∃ (v : Value) (rs : List RoleD), e = .returned v ∧ RolesOk xs rs ∧ RowH 6 RoleV w.heap.size w'.heap.size w' v rs ∧ w.grownBy w' (some K) ∧ ∃ p, CoAt K D l p w'
/-- Three roles under way, and what they are of. -/
def RolC (xs : List TableD) (K D B : Nat) (l : List Nat) (R : Nat → Nat) (hd : Nat → RolHd) (side : List (Nat × List Value)) (k0 k1 k2 : Nat) (w W : World) : Prop := ∃ (v : Nat → Value) (g : Nat → List GrantW), RolL K D B l R hd v g side w W ∧ GOk xs k0 k1 k2 g
theorem GOk.len {xs : List TableD} {k0 k1 k2 : Nat} {g : Nat → List GrantW} (h : GOk xs k0 k1 k2 g) : (g 0).length ≤ xs.length ∧ (g 1).length ≤ xs.length ∧ (g 2).length ≤ xs.length := by
  obtain ⟨h0, h1, h2⟩ := h
  have e0 := congrArg List.length h0
  have e1 := h1.length_le
  have e2 := h2.length_le
  simp only [List.length_map, List.length_take] at e0 e1 e2
  omega
theorem RolL.store {K D B i : Nat} {l : List Nat} {R : Nat → Nat} {hd : Nat → RolHd} {v : Nat → Value} {g : Nat → List GrantW} {side : List (Nat × List Value)} {w W w1 : World} {o : Obj} (h : RolL K D B l R hd v g side w W) (hi : i < 3) (hg : (W.alloc o).grownBy w1 (v i).ownBlock) : w1.cell? ⟨R i, 2, none⟩ = some (v i) ∧ w1.frozen? ⟨R i, 2, none⟩ = false := by
  have hb := ((h.box i hi).alloc o).kept hg (fun e => by have := (World.ownsRow.lt (h.own i hi) _ e.symm).1; have := (h.lt i hi).2; omega)
  exact ⟨hb.c 2 (by simp [hdCells]), hb.f 2⟩
theorem RolL.perm {K D B : Nat} {l : List Nat} {R : Nat → Nat} {hd : Nat → RolHd} {v : Nat → Value} {g : Nat → List GrantW} {side side' : List (Nat × List Value)} {w W : World} (h : RolL K D B l R hd v g side w W) (e : ∀ s, s ∈ side ↔ s ∈ side') : RolL K D B l R hd v g side' w W :=
  ⟨h.KB, h.DB, h.BW, h.lt, h.ne, h.box, h.own, h.apart, fun s hs => h.sides s ((e s).2 hs), fun i hi x hx => ⟨(h.keys i hi x hx).1, (h.keys i hi x hx).2.imp fun _ h => ⟨h.1, h.2.1, (e _).1 h.2.2⟩⟩, h.co, h.gr⟩
theorem RolL.row {K D B i : Nat} {l : List Nat} {R : Nat → Nat} {hd : Nat → RolHd} {v : Nat → Value} {g : Nat → List GrantW} {side : List (Nat × List Value)} {w W : World} (h : RolL K D B l R hd v g side w W) (hi : i < 3) : RowH 4 GrantV w.heap.size W.heap.size W (v i) ((g i).map GrantW.d) := by
  have hB := h.lt 0 (by decide)
  have := rowH_of_own (P := fun B w cs (x : GrantW) => GrantV B w cs x.d) (enc := encGW) (sz := 4) (a := w.heap.size) (b := W.heap.size) (fun _ => rfl) (by omega) (Nat.le_refl _) (fun x hx w2 B2 hs hB2 => by
    obtain ⟨h1, L, h2, h3, h4⟩ := h.keys i hi x hx
    obtain ⟨h5, h6, _⟩ := h.sides _ h4
    refine ⟨x.v, rfl, h1, ?_⟩
    rw [h2]
    exact bools_lit (a := w.heap.size) (b := W.heap.size) x.keys h5 h6 h5.lt rfl (by unfold maxLen; omega) w2 B2 hs hB2) (h.own i hi)
  exact fun w2 B2 h1 h2 => rowV_map (this w2 B2 h1 h2)
theorem RolL.alloc {K D B : Nat} {l : List Nat} {R : Nat → Nat} {hd : Nat → RolHd} {v : Nat → Value} {g : Nat → List GrantW} {side : List (Nat × List Value)} {w W : World} (h : RolL K D B l R hd v g side w W) (o : Obj) : RolL K D B l R hd v g side w (W.alloc o) := by
  obtain ⟨p, c⟩ := h.co
  exact h.chose (grown_below (grown_alloc W o none)) (c.kept (grown_alloc W o none) (by simp) (by simp))
theorem RolC.back {xs : List TableD} {K D B k0 k1 k2 : Nat} {l : List Nat} {R : Nat → Nat} {hd : Nat → RolHd} {a b c : Nat × List Value} {S side : List (Nat × List Value)} {w W : World} (h : RolC xs K D B l R hd (a :: b :: c :: (S ++ side)) k0 k1 k2 w W) : ∃ (v : Nat → Value) (g : Nat → List GrantW) (side' : List (Nat × List Value)), RolL K D B l R hd v g (S ++ side') w W ∧ GOk xs k0 k1 k2 g := by
  obtain ⟨v, g, h1, h2⟩ := h
  refine ⟨v, g, a :: b :: c :: side, h1.perm fun s => ?_, h2⟩
  simp only [List.mem_cons, List.mem_append]
  constructor
  · intro h
    rcases h with h | h | h | h | h <;> simp [h]
  · intro h
    rcases h with h | h | h | h | h <;> simp [h]
/-- The keys of the two grants under way. -/
structure InL (K D : Nat) (l : List Nat) (T Y P n j : Nat) (tc : List Value) (ps : List Bool) (W0 W : World) : Prop where
  yes : Bx K Y ((List.replicate j true ++ List.replicate (n - j) false).map Value.bool) W
  part : Bx K P ((ps ++ List.replicate (n - j) false).map Value.bool) W
  len : ps.length = j
  tab : Bx K T tc W
  co : ∃ p, CoAt K D l p W
  gr : W0.grownBy W (some K)
theorem rep_next {α : Type} (a b : α) (pre : List α) (m : Nat) : (pre ++ List.replicate (m + 1) b).set pre.length a = (pre ++ [a]) ++ List.replicate m b := by
  rw [List.set_append_right _ _ (Nat.le_refl _), Nat.sub_self, List.replicate_succ, List.set_cons_zero, List.append_assoc]
  rfl
theorem InL.next {K D T Y P n j p : Nat} {l : List Nat} {tc : List Value} {ps : List Bool} {W0 W W' : World} (h : InL K D l T Y P n j tc ps W0 W) (hj : j < n) (b : Bool) (hg : W.grownBy W' (some K)) (c : CoAt K D l p W') (hTY : T ≠ Y) (hTP : T ≠ P) (hYP : Y ≠ P) (hY : W0.heap.size ≤ Y) (hP : W0.heap.size ≤ P) (hK : K < W0.heap.size) (hD : l ≠ [] → D < W0.heap.size) :
    InL K D l T Y P n (j + 1) tc (ps ++ [b]) W0 ((W'.setCell ⟨Y, j, none⟩ (.bool true)).setCell ⟨P, j, none⟩ (.bool b)) := by
  obtain ⟨m, rfl⟩ : ∃ m, n = j + 1 + m := ⟨n - (j + 1), by omega⟩
  have e1 : j + 1 + m - j = m + 1 := by omega
  have e2 : j + 1 + m - (j + 1) = m := by omega
  have hy := (h.yes.chose hg).set j (.bool true)
  have hp := (((h.part.chose hg).other (Ne.symm hYP) j (.bool true))).set j (.bool b)
  have s1 : (((List.replicate j true ++ List.replicate (m + 1) false).map Value.bool).set j (.bool true)) = (List.replicate (j + 1) true ++ List.replicate m false).map Value.bool := by
    have := rep_next true false (List.replicate j true) m
    rw [List.length_replicate] at this
    rw [← List.map_set, this, List.replicate_succ' (n := j)]
  have s2 : (((ps ++ List.replicate (m + 1) false).map Value.bool).set j (.bool b)) = ((ps ++ [b]) ++ List.replicate m false).map Value.bool := by
    have := rep_next b false ps m
    rw [h.len] at this
    rw [← List.map_set, this]
  rw [e1] at hy hp
  rw [s1] at hy
  rw [s2] at hp
  refine ⟨by rw [e2]; exact hy.other hYP j _, by rw [e2]; exact hp, by simp [h.len], ((h.tab.chose hg).other hTY j _).other hTP j _, ⟨p, ?_⟩, grown_own (grown_own (h.gr.trans hg) hY _ _) hP _ _⟩
  exact (c.kept (grown_set W' Y j _) (fun e => by injection e with e; omega) (fun e0 e => by have := hD e0; injection e with e; omega)).kept (grown_set _ P j _) (fun e => by injection e with e; omega) (fun e0 e => by have := hD e0; injection e with e; omega)
end Go.Proofs.YtldgjahpmlafgaaGreat
