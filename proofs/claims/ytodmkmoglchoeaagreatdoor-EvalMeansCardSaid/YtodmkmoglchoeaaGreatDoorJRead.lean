/- Contracts, joined: WPure, WTake, WRoom, WRead, WBytes, WText, WValue. -/
import Derived.Test.YtodmkmoglchoeaaGreatDoorJParse
import Derived.Deep.AppendLies
import Derived.Deep.Onto
import Derived.Maps.AppendAt
import Derived.Maps.Range
import Derived.OwnWalk
import Derived.IntWalk
import Derived.Laws.CopyOwn
namespace Go.Proofs.YtodmkmoglchoeaaGreatDoor
/- Lists of bytes: numbers written and read, the reader's cell. -/
section
open Go.RowKit

/-- The number of a list of bytes, the highest byte first. -/
def num (l : List Nat) : Nat := l.foldl (fun a x => a * 256 + x) 0
/-- A list of bytes. -/
def Small (l : List Nat) : Prop := ∀ x ∈ l, x < 256
set_option maxRecDepth 100000 in
theorem Small.getD {l : List Nat} (h : Small l) (k : Nat) : l.getD k 0 < 256 := by
  rw [List.getD_eq_getElem?_getD]
  rcases Nat.lt_or_ge k l.length with hk | hk
  · rw [List.getElem?_eq_getElem hk]
    exact h _ (List.getElem_mem hk)
  · rw [List.getElem?_eq_none hk]
    exact (by decide : (0 : Nat) < 256)
set_option maxRecDepth 100000 in
theorem Small.take {l : List Nat} (h : Small l) (k : Nat) : Small (l.take k) := fun x hx => h x (List.mem_of_mem_take hx)
set_option maxRecDepth 100000 in
theorem Small.drop {l : List Nat} (h : Small l) (k : Nat) : Small (l.drop k) := fun x hx => h x (List.mem_of_mem_drop hx)
set_option maxRecDepth 100000 in
theorem Small.append {l m : List Nat} (h : Small l) (k : Small m) : Small (l ++ m) := fun x hx => by
  rcases List.mem_append.1 hx with hx | hx
  · exact h x hx
  · exact k x hx
set_option maxRecDepth 100000 in
theorem Small.nil : Small [] := fun _ h => by cases h
/-- The cells of a list of bytes. -/
def cellsOf (l : List Nat) : List Value := l.map fun (x : Nat) => Value.int .u8 x
/-- The bytes l can be read from A on, in block D. -/
def ReadsL (w : World) (D : Nat) (A : Option Addr) (l : List Nat) : Prop :=
  l = [] ∨ ∃ o : Nat, A = some ⟨D, o, none⟩ ∧ D < w.heap.size ∧ ∀ i, i < l.length → w.cell? ⟨D, o + i, none⟩ = some (.int .u8 (l.getD i 0))
set_option maxRecDepth 100000 in
theorem cell_kept {w w' : World} {row : Option Nat} (h : w.grownBy w' row) {b o : Nat} (hb : b < w.heap.size) (hr : some b ≠ row) : w'.cell? ⟨b, o, none⟩ = w.cell? ⟨b, o, none⟩ :=
  h.cell_far ⟨b, o, none⟩ hb hr
set_option maxRecDepth 100000 in
theorem frozen_kept {w w' : World} {row : Option Nat} (h : w.grownBy w' row) {b o : Nat} (hb : b < w.heap.size) (hr : some b ≠ row) : w'.frozen? ⟨b, o, none⟩ = w.frozen? ⟨b, o, none⟩ :=
  h.frozen_far ⟨b, o, none⟩ hb hr
set_option maxRecDepth 100000 in
theorem ReadsL.kept {w w' : World} {D : Nat} {A : Option Addr} {l : List Nat} {row : Option Nat} (h : ReadsL w D A l) (hg : w.grownBy w' row) (hD : row ≠ some D) : ReadsL w' D A l := by
  rcases h with h | ⟨o, rfl, hb, hc⟩
  · exact .inl h
  · exact .inr ⟨o, rfl, Nat.lt_of_lt_of_le hb hg.size, fun i hi => by rw [cell_kept hg hb (Ne.symm hD)]; exact hc i hi⟩
set_option maxRecDepth 100000 in
theorem ReadsL.take {w : World} {D : Nat} {A : Option Addr} {l : List Nat} (h : ReadsL w D A l) (k : Nat) : ReadsL w D A (l.take k) := by
  rcases h with rfl | ⟨o, rfl, hb, hc⟩
  · exact .inl (by simp)
  · refine .inr ⟨o, rfl, hb, fun i hi => ?_⟩
    rw [List.length_take] at hi
    rw [hc i (by omega)]
    congr 3
    rw [List.getD_eq_getElem?_getD, List.getD_eq_getElem?_getD, List.getElem?_take_of_lt (by omega)]
/-- Where a slice begins behind its first k elements. -/
def cutA (A : Option Addr) (cap k : Nat) : Option Addr := if cap = k then A else A.map (·.add k)
set_option maxRecDepth 100000 in
theorem ReadsL.drop {w : World} {D : Nat} {A : Option Addr} {l : List Nat} {cap : Nat} (h : ReadsL w D A l) (k : Nat) (hc0 : l.length ≤ cap) : ReadsL w D (cutA A cap k) (l.drop k) := by
  rcases h with rfl | ⟨o, rfl, hb, hc⟩
  · exact .inl (by simp)
  · rcases Nat.lt_or_ge k l.length with hk | hk
    · refine .inr ⟨o + k, ?_, hb, fun i hi => ?_⟩
      · unfold cutA
        rw [if_neg (by omega)]
        simp only [Option.map_some, Addr.add_mid]
      · rw [List.length_drop] at hi
        rw [Nat.add_assoc, hc (k + i) (by omega)]
        congr 3
        rw [List.getD_eq_getElem?_getD, List.getD_eq_getElem?_getD, List.getElem?_drop]
    · exact .inl (List.drop_eq_nil_of_le hk)

/-- Reader R: its bytes l (in block D), its first error e. -/
structure RdAt (w : World) (R D : Nat) (l : List Nat) (e : Int) (A : Option Addr) (n cap : Nat) : Prop where
  c0 : w.cell? ⟨R, 0, none⟩ = some (.slice A n cap)
  c1 : w.cell? ⟨R, 1, none⟩ = some (.int .i64 e)
  f0 : w.frozen? ⟨R, 0, none⟩ = false
  f1 : w.frozen? ⟨R, 1, none⟩ = false
  lt : R < w.heap.size
  dlt : D < w.heap.size
  len : l.length = n
  le : n ≤ cap
  max : n ≤ 1000000
  small : Small l
  reads : ReadsL w D A l
  apart : D ≠ R
section
variable {w w' : World} {R D n cap : Nat} {l : List Nat} {e : Int} {A : Option Addr}
set_option maxRecDepth 100000 in
theorem RdAt.kept {row : Option Nat} (h : RdAt w R D l e A n cap) (hg : w.grownBy w' row) (hR : row ≠ some R) (hD : row ≠ some D) : RdAt w' R D l e A n cap where
  c0 := by rw [cell_kept hg h.lt (Ne.symm hR)]; exact h.c0
  c1 := by rw [cell_kept hg h.lt (Ne.symm hR)]; exact h.c1
  f0 := by rw [frozen_kept hg h.lt (Ne.symm hR)]; exact h.f0
  f1 := by rw [frozen_kept hg h.lt (Ne.symm hR)]; exact h.f1
  lt := Nat.lt_of_lt_of_le h.lt hg.size
  dlt := Nat.lt_of_lt_of_le h.dlt hg.size
  len := h.len
  le := h.le
  max := h.max
  small := h.small
  reads := h.reads.kept hg hD
  apart := h.apart
set_option maxRecDepth 100000 in
theorem grown_set (w : World) (R o : Nat) (v : Value) : w.grownBy (w.setCell ⟨R, o, none⟩ v) (some R) :=
  ⟨rfl, rfl, rfl, by simp [World.setCell], fun k _ hk => Below.heap_setCell w ⟨R, o, none⟩ v k (fun e => hk (by rw [e]))⟩
set_option maxRecDepth 100000 in
theorem grown_alloc (w : World) (o : Obj) (row : Option Nat) : w.grownBy (w.alloc o) row :=
  ⟨rfl, rfl, rfl, by simp, fun k hk _ => Below.heap_alloc w o k hk⟩
set_option maxRecDepth 100000 in
/-- The position moved by k bytes. -/
theorem RdAt.skip (h : RdAt w R D l e A n cap) (k : Nat) (hk : k ≤ n) : RdAt (w.setCell ⟨R, 0, none⟩ (.slice (cutA A cap k) (n - k) (cap - k))) R D (l.drop k) e (cutA A cap k) (n - k) (cap - k) where
  c0 := World.cell?_setCell_same' _ _ _ (by rw [h.c0]; rfl)
  c1 := by rw [World.cell?_setCell_other _ _ _ _ (by simp)]; exact h.c1
  f0 := by rw [World.frozen?_setCell]; exact h.f0
  f1 := by rw [World.frozen?_setCell]; exact h.f1
  lt := by simpa [World.setCell] using h.lt
  dlt := by simpa [World.setCell] using h.dlt
  len := by rw [List.length_drop, h.len]
  le := by have := h.le; omega
  max := by have := h.max; omega
  small := h.small.drop k
  reads := (h.reads.drop k (by rw [h.len]; exact h.le)).kept (grown_set w R 0 _) (by simp; exact fun e => h.apart e.symm)
  apart := h.apart
set_option maxRecDepth 100000 in
/-- The position set back and the first error set. -/
theorem RdAt.back (h : RdAt w R D l e A n cap) {D2 n2 cap2 : Nat} {l2 : List Nat} {e2 : Int} {A2 : Option Addr} (hg : w.grownBy w' (some R)) (h2 : RdAt w' R D2 l2 e2 A2 n2 cap2) (c : Int) :
    RdAt ((w'.setCell ⟨R, 0, none⟩ (.slice A n cap)).setCell ⟨R, 1, none⟩ (.int .i64 c)) R D l c A n cap where
  c0 := by rw [World.cell?_setCell_other _ _ _ _ (by simp)]; exact World.cell?_setCell_same' _ _ _ (by rw [h2.c0]; rfl)
  c1 := World.cell?_setCell_same' _ _ _ (by rw [World.cell?_setCell_other _ _ _ _ (by simp), h2.c1]; rfl)
  f0 := by rw [World.frozen?_setCell, World.frozen?_setCell]; exact h2.f0
  f1 := by rw [World.frozen?_setCell, World.frozen?_setCell]; exact h2.f1
  lt := by simpa [World.setCell] using h2.lt
  dlt := by have := hg.size; have := h.dlt; simp [World.setCell]; omega
  len := h.len
  le := h.le
  max := h.max
  small := h.small
  reads := (h.reads.kept hg (by simp; exact fun e => h.apart e.symm)).kept ((grown_set w' R 0 _).trans (grown_set _ R 1 _)) (by simp; exact fun e => h.apart e.symm)
  apart := h.apart
set_option maxRecDepth 100000 in
/-- The first error set. -/
theorem RdAt.fail (h : RdAt w R D l e A n cap) (c : Int) : RdAt (w.setCell ⟨R, 1, none⟩ (.int .i64 c)) R D l c A n cap where
  c0 := by rw [World.cell?_setCell_other _ _ _ _ (by simp)]; exact h.c0
  c1 := World.cell?_setCell_same' _ _ _ (by rw [h.c1]; rfl)
  f0 := by rw [World.frozen?_setCell]; exact h.f0
  f1 := by rw [World.frozen?_setCell]; exact h.f1
  lt := by simpa [World.setCell] using h.lt
  dlt := by simpa [World.setCell] using h.dlt
  len := h.len
  le := h.le
  max := h.max
  small := h.small
  reads := h.reads.kept (grown_set w R 1 _) (by simp; exact fun e => h.apart e.symm)
  apart := h.apart
/-- A store into another block. -/
theorem RdAt.far (h : RdAt w R D l e A n cap) {b o : Nat} (hR : b ≠ R) (hD : b ≠ D) (v : Value) : RdAt (w.setCell ⟨b, o, none⟩ v) R D l e A n cap :=
  h.kept (grown_set w b o v) (by simpa using hR) (by simpa using hD)
end
end
/- take of package wire. -/
section
open Go.RowKit

end
/- withRoom of package wire: a copy of its own. -/
section
open Go.RowKit

end
/- readBool, readCount of package wire: what they return. -/
section
open Go.RowKit

section
variable (R D : Nat) (l : List Nat) (A : Option Addr) (n cap : Nat) (w : World)
end
end
/- readBytes of package wire: what it returns. -/
section
open Go.RowKit

section
variable (R D : Nat) (l : List Nat) (A : Option Addr) (n cap : Nat) (w : World)
end
end
/- readText of package wire: what it returns. -/
section
open Go.RowKit

/-- A text consists of bytes from 32 to 126. -/
def plain (l : List Nat) : Bool := l.all fun x => decide (32 ≤ x) && decide (x ≤ 126)
section
variable (R D : Nat) (l : List Nat) (A : Option Addr) (n cap : Nat) (w : World)
end
end
/- readValue of package wire: what it returns. -/
section
open Go.RowKit

section
variable (R D : Nat) (l : List Nat) (A : Option Addr) (n cap : Nat) (w : World)
end
end
theorem set_other (w : World) (X i j : Nat) (u : Value) (h : i ≠ j) : (w.setCell ⟨X, i, none⟩ u).cell? ⟨X, j, none⟩ = w.cell? ⟨X, j, none⟩ :=
  World.cell?_setCell_other _ _ _ _ (by intro e; injection e with _ e _; exact h e)
theorem set_same {w : World} {X i : Nat} {u : Value} (x : Value) (h : w.cell? ⟨X, i, none⟩ = some u) : (w.setCell ⟨X, i, none⟩ x).cell? ⟨X, i, none⟩ = some x := World.cell?_setCell_same _ _ _ h
theorem set_froz (w : World) (X i j : Nat) (u : Value) : (w.setCell ⟨X, i, none⟩ u).frozen? ⟨X, j, none⟩ = w.frozen? ⟨X, j, none⟩ := by simp
end Go.Proofs.YtodmkmoglchoeaaGreatDoor
