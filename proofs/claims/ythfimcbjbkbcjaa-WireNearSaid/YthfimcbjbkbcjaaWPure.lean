/- Lists of bytes: numbers written and read, the reader's cell. -/
import Derived.Test.YthfimcbjbkbcjaaParse
import Derived.Deep.AppendLies
import Derived.Deep.Onto
import Derived.Maps.AppendAt
import Derived.Maps.Range
import Derived.OwnWalk
import Derived.IntWalk
namespace Go.Proofs.Ythfimcbjbkbcjaa
open Go.RowKit

/-- The number of a list of bytes, the highest byte first. -/
def num (l : List Nat) : Nat := l.foldl (fun a x => a * 256 + x) 0
theorem num_snoc (l : List Nat) (x : Nat) : num (l ++ [x]) = num l * 256 + x := by simp [num]
theorem take_snoc (l : List Nat) (k : Nat) (h : k < l.length) : l.take (k + 1) = l.take k ++ [l.getD k 0] := by
  rw [List.take_add_one, List.getElem?_eq_getElem h, List.getD_eq_getElem?_getD, List.getElem?_eq_getElem h]
  rfl
theorem num_take (l : List Nat) (k : Nat) (h : k < l.length) : num (l.take (k + 1)) = num (l.take k) * 256 + l.getD k 0 := by
  rw [take_snoc l k h, num_snoc]
/-- A list of bytes. -/
def Small (l : List Nat) : Prop := ∀ x ∈ l, x < 256
theorem Small.getD {l : List Nat} (h : Small l) (k : Nat) : l.getD k 0 < 256 := by
  rw [List.getD_eq_getElem?_getD]
  rcases Nat.lt_or_ge k l.length with hk | hk
  · rw [List.getElem?_eq_getElem hk]
    exact h _ (List.getElem_mem hk)
  · rw [List.getElem?_eq_none hk]
    exact (by decide : (0 : Nat) < 256)
theorem Small.take {l : List Nat} (h : Small l) (k : Nat) : Small (l.take k) := fun x hx => h x (List.mem_of_mem_take hx)
theorem Small.drop {l : List Nat} (h : Small l) (k : Nat) : Small (l.drop k) := fun x hx => h x (List.mem_of_mem_drop hx)
theorem Small.append {l m : List Nat} (h : Small l) (k : Small m) : Small (l ++ m) := fun x hx => by
  rcases List.mem_append.1 hx with hx | hx
  · exact h x hx
  · exact k x hx
theorem Small.nil : Small [] := fun _ h => by cases h
theorem num_lt (l : List Nat) (hs : Small l) : ∀ k, k ≤ l.length → num (l.take k) < 256 ^ k
  | 0, _ => by simp [num]
  | k + 1, h => by
    have ih := num_lt l hs k (by omega)
    have hk := hs.getD k
    rw [num_take l k (by omega), Nat.pow_succ]
    omega

theorem i64_or_byte (v x : Nat) (hv : v < 1099511627776) (hx : x < 256) : bits .or .i64 ((v : Int) * 256) (x : Int) = ((v * 256 + x : Nat) : Int) := by
  have h1 : (BitVec.ofInt 64 ((v * 256 : Nat) : Int)).toNat = v * 256 := by rw [BitVec.ofInt_natCast, BitVec.toNat_ofNat]; omega
  have h2 : (BitVec.ofInt 64 (x : Int)).toNat = x := by rw [BitVec.ofInt_natCast, BitVec.toNat_ofNat]; omega
  rw [show ((v : Int) * 256) = ((v * 256 : Nat) : Int) by omega]
  show IntKind.i64.wrap ((BitVec.ofInt 64 ((v * 256 : Nat) : Int) ||| BitVec.ofInt 64 (x : Int)).toNat : Int) = _
  rw [BitVec.toNat_or, h1, h2, Nat.mul_comm v 256, show (256 : Nat) = 2 ^ 8 from rfl, ← Nat.two_pow_add_eq_or_of_lt (i := 8) (b := x) (by omega) v, IntKind.wrap_i64]
  omega
theorem i64_mask (n : Int) (k : Nat) (hk : k ≤ 62) : bits .and .i64 n ((2 ^ k - 1 : Nat) : Int) = n % ((2 ^ k : Nat) : Int) := by
  have hp : 2 ^ k ≤ 2 ^ 62 := Nat.pow_le_pow_right (by decide) hk
  have hp0 : 0 < 2 ^ k := Nat.pow_pos (by decide)
  have h1 : (BitVec.ofInt 64 ((2 ^ k - 1 : Nat) : Int)).toNat = 2 ^ k - 1 := by rw [BitVec.ofInt_natCast, BitVec.toNat_ofNat]; exact Nat.mod_eq_of_lt (by omega)
  show IntKind.i64.wrap ((BitVec.ofInt 64 n &&& BitVec.ofInt 64 ((2 ^ k - 1 : Nat) : Int)).toNat : Nat) = _
  rw [BitVec.toNat_and, h1, BitVec.toNat_ofInt, Nat.and_two_pow_sub_one_eq_mod]
  have hd : ((2 ^ k : Nat) : Int) ∣ ((2 ^ 64 : Nat) : Int) := Int.natCast_dvd_natCast.2 (Nat.pow_dvd_pow 2 (by omega))
  have e : (((n % ((2 ^ 64 : Nat) : Int)).toNat % 2 ^ k : Nat) : Int) = n % ((2 ^ k : Nat) : Int) := by
    rw [Int.natCast_emod, Int.toNat_of_nonneg (Int.emod_nonneg _ (by decide)), Int.emod_emod_of_dvd _ hd]
  have h2 : 0 ≤ n % ((2 ^ k : Nat) : Int) := Int.emod_nonneg _ (by omega)
  have h3 : n % ((2 ^ k : Nat) : Int) < ((2 ^ k : Nat) : Int) := Int.emod_lt_of_pos _ (by omega)
  rw [IntKind.wrap_i64, e]
  omega
/-- The cells of a list of bytes. -/
def cellsOf (l : List Nat) : List Value := l.map fun (x : Nat) => Value.int .u8 x
theorem cellsOf_len (l : List Nat) : (cellsOf l).length = l.length := by simp [cellsOf]
theorem cellsOf_append (l m : List Nat) : cellsOf (l ++ m) = cellsOf l ++ cellsOf m := by simp [cellsOf]
theorem cellsOf_one (l : List Nat) : ∀ u ∈ cellsOf l, u.oneCell' = true := fun u hu => by
  obtain ⟨x, _, rfl⟩ := List.mem_map.1 hu
  rfl
theorem cellsOf_get {l : List Nat} {i : Nat} (h : i < l.length) : (cellsOf l)[i]? = some (.int .u8 (l.getD i 0)) := by
  rw [cellsOf, List.getElem?_map, List.getD_eq_getElem?_getD, List.getElem?_eq_getElem h]
  rfl
/-- The bytes l can be read from A on, in block D. -/
def ReadsL (w : World) (D : Nat) (A : Option Addr) (l : List Nat) : Prop :=
  l = [] ∨ ∃ o : Nat, A = some ⟨D, o, none⟩ ∧ D < w.heap.size ∧ ∀ i, i < l.length → w.cell? ⟨D, o + i, none⟩ = some (.int .u8 (l.getD i 0))
theorem cell_kept {w w' : World} {row : Option Nat} (h : w.grownBy w' row) {b o : Nat} (hb : b < w.heap.size) (hr : some b ≠ row) : w'.cell? ⟨b, o, none⟩ = w.cell? ⟨b, o, none⟩ :=
  h.cell_far ⟨b, o, none⟩ hb hr
theorem frozen_kept {w w' : World} {row : Option Nat} (h : w.grownBy w' row) {b o : Nat} (hb : b < w.heap.size) (hr : some b ≠ row) : w'.frozen? ⟨b, o, none⟩ = w.frozen? ⟨b, o, none⟩ :=
  h.frozen_far ⟨b, o, none⟩ hb hr
theorem ReadsL.kept {w w' : World} {D : Nat} {A : Option Addr} {l : List Nat} {row : Option Nat} (h : ReadsL w D A l) (hg : w.grownBy w' row) (hD : row ≠ some D) : ReadsL w' D A l := by
  rcases h with h | ⟨o, rfl, hb, hc⟩
  · exact .inl h
  · exact .inr ⟨o, rfl, Nat.lt_of_lt_of_le hb hg.size, fun i hi => by rw [cell_kept hg hb (Ne.symm hD)]; exact hc i hi⟩
theorem ReadsL.readsB {w : World} {D : Nat} {A : Option Addr} {l : List Nat} (h : ReadsL w D A l) (hs : Small l) : ReadsB w A l.length (fun i => l.getD i 0) := by
  rcases h with rfl | ⟨o, rfl, hb, hc⟩
  · exact .inl rfl
  · exact .inr ⟨D, o, rfl, hb, hc, fun i _ => hs.getD i⟩
theorem ReadsL.take {w : World} {D : Nat} {A : Option Addr} {l : List Nat} (h : ReadsL w D A l) (k : Nat) : ReadsL w D A (l.take k) := by
  rcases h with rfl | ⟨o, rfl, hb, hc⟩
  · exact .inl (by simp)
  · refine .inr ⟨o, rfl, hb, fun i hi => ?_⟩
    rw [List.length_take] at hi
    rw [hc i (by omega)]
    congr 3
    rw [List.getD_eq_getElem?_getD, List.getD_eq_getElem?_getD, List.getElem?_take_of_lt (by omega)]
/-- Where a slice begins behind its first k elements. -/
def cutA (A : Option Addr) (cap k : Nat) : Option Addr := if cap = k then A else A.map (·.add k)
theorem ReadsL.drop {w : World} {D : Nat} {A : Option Addr} {l : List Nat} {cap : Nat} (h : ReadsL w D A l) (k : Nat) (hc0 : l.length ≤ cap) : ReadsL w D (cutA A cap k) (l.drop k) := by
  rcases h with rfl | ⟨o, rfl, hb, hc⟩
  · exact .inl (by simp)
  · rcases Nat.lt_or_ge k l.length with hk | hk
    · refine .inr ⟨o + k, ?_, hb, fun i hi => ?_⟩
      · unfold cutA
        rw [if_neg (by omega)]
        simp only [Option.map_some, Addr.add_mid]
      · rw [List.length_drop] at hi
        rw [Nat.add_assoc, hc (k + i) (by omega)]
        congr 3
        rw [List.getD_eq_getElem?_getD, List.getD_eq_getElem?_getD, List.getElem?_drop]
    · exact .inl (List.drop_eq_nil_of_le hk)

/-- Reader R: its bytes l (in block D), its first error e. -/
structure RdAt (w : World) (R D : Nat) (l : List Nat) (e : Int) (A : Option Addr) (n cap : Nat) : Prop where
  c0 : w.cell? ⟨R, 0, none⟩ = some (.slice A n cap)
  c1 : w.cell? ⟨R, 1, none⟩ = some (.int .i64 e)
  f0 : w.frozen? ⟨R, 0, none⟩ = false
  f1 : w.frozen? ⟨R, 1, none⟩ = false
  lt : R < w.heap.size
  dlt : D < w.heap.size
  len : l.length = n
  le : n ≤ cap
  max : n ≤ 1000000
  small : Small l
  reads : ReadsL w D A l
  apart : D ≠ R
section
variable {w w' : World} {R D n cap : Nat} {l : List Nat} {e : Int} {A : Option Addr}
theorem RdAt.kept {row : Option Nat} (h : RdAt w R D l e A n cap) (hg : w.grownBy w' row) (hR : row ≠ some R) (hD : row ≠ some D) : RdAt w' R D l e A n cap where
  c0 := by rw [cell_kept hg h.lt (Ne.symm hR)]; exact h.c0
  c1 := by rw [cell_kept hg h.lt (Ne.symm hR)]; exact h.c1
  f0 := by rw [frozen_kept hg h.lt (Ne.symm hR)]; exact h.f0
  f1 := by rw [frozen_kept hg h.lt (Ne.symm hR)]; exact h.f1
  lt := Nat.lt_of_lt_of_le h.lt hg.size
  dlt := Nat.lt_of_lt_of_le h.dlt hg.size
  len := h.len
  le := h.le
  max := h.max
  small := h.small
  reads := h.reads.kept hg hD
  apart := h.apart
theorem grown_of_below (h : Below w.heap.size w w') (row : Option Nat) : w.grownBy w' row := ⟨h.os, h.tape, h.output, h.size, fun k hk _ => h.block k hk⟩
theorem below_of_grown (h : w.grownBy w' none) : Below w.heap.size w w' := ⟨h.os, h.tape, h.output, h.size, fun k hk => h.block k hk (by simp)⟩
theorem grown_set (w : World) (R o : Nat) (v : Value) : w.grownBy (w.setCell ⟨R, o, none⟩ v) (some R) :=
  ⟨rfl, rfl, rfl, by simp [World.setCell], fun k _ hk => Below.heap_setCell w ⟨R, o, none⟩ v k (fun e => hk (by rw [e]))⟩
theorem grown_alloc (w : World) (o : Obj) (row : Option Nat) : w.grownBy (w.alloc o) row :=
  ⟨rfl, rfl, rfl, by simp, fun k hk _ => Below.heap_alloc w o k hk⟩
/-- The position moved by k bytes. -/
theorem RdAt.skip (h : RdAt w R D l e A n cap) (k : Nat) (hk : k ≤ n) : RdAt (w.setCell ⟨R, 0, none⟩ (.slice (cutA A cap k) (n - k) (cap - k))) R D (l.drop k) e (cutA A cap k) (n - k) (cap - k) where
  c0 := World.cell?_setCell_same' _ _ _ (by rw [h.c0]; rfl)
  c1 := by rw [World.cell?_setCell_other _ _ _ _ (by simp)]; exact h.c1
  f0 := by rw [World.frozen?_setCell]; exact h.f0
  f1 := by rw [World.frozen?_setCell]; exact h.f1
  lt := by simpa [World.setCell] using h.lt
  dlt := by simpa [World.setCell] using h.dlt
  len := by rw [List.length_drop, h.len]
  le := by have := h.le; omega
  max := by have := h.max; omega
  small := h.small.drop k
  reads := (h.reads.drop k (by rw [h.len]; exact h.le)).kept (grown_set w R 0 _) (by simp; exact fun e => h.apart e.symm)
  apart := h.apart
/-- The position set back and the first error set. -/
theorem RdAt.back (h : RdAt w R D l e A n cap) {D2 n2 cap2 : Nat} {l2 : List Nat} {e2 : Int} {A2 : Option Addr} (hg : w.grownBy w' (some R)) (h2 : RdAt w' R D2 l2 e2 A2 n2 cap2) (c : Int) :
    RdAt ((w'.setCell ⟨R, 0, none⟩ (.slice A n cap)).setCell ⟨R, 1, none⟩ (.int .i64 c)) R D l c A n cap where
  c0 := by rw [World.cell?_setCell_other _ _ _ _ (by simp)]; exact World.cell?_setCell_same' _ _ _ (by rw [h2.c0]; rfl)
  c1 := World.cell?_setCell_same' _ _ _ (by rw [World.cell?_setCell_other _ _ _ _ (by simp), h2.c1]; rfl)
  f0 := by rw [World.frozen?_setCell, World.frozen?_setCell]; exact h2.f0
  f1 := by rw [World.frozen?_setCell, World.frozen?_setCell]; exact h2.f1
  lt := by simpa [World.setCell] using h2.lt
  dlt := by have := hg.size; have := h.dlt; simp [World.setCell]; omega
  len := h.len
  le := h.le
  max := h.max
  small := h.small
  reads := (h.reads.kept hg (by simp; exact fun e => h.apart e.symm)).kept ((grown_set w' R 0 _).trans (grown_set _ R 1 _)) (by simp; exact fun e => h.apart e.symm)
  apart := h.apart
/-- The first error set. -/
theorem RdAt.fail (h : RdAt w R D l e A n cap) (c : Int) : RdAt (w.setCell ⟨R, 1, none⟩ (.int .i64 c)) R D l c A n cap where
  c0 := by rw [World.cell?_setCell_other _ _ _ _ (by simp)]; exact h.c0
  c1 := World.cell?_setCell_same' _ _ _ (by rw [h.c1]; rfl)
  f0 := by rw [World.frozen?_setCell]; exact h.f0
  f1 := by rw [World.frozen?_setCell]; exact h.f1
  lt := by simpa [World.setCell] using h.lt
  dlt := by simpa [World.setCell] using h.dlt
  len := h.len
  le := h.le
  max := h.max
  small := h.small
  reads := h.reads.kept (grown_set w R 1 _) (by simp; exact fun e => h.apart e.symm)
  apart := h.apart
theorem grown_new {row : Option Nat} (hg : w.grownBy w' row) {b o : Nat} (hb : w.heap.size ≤ b) (v : Value) : w.grownBy (w'.setCell ⟨b, o, none⟩ v) row :=
  ⟨hg.os, hg.tape, hg.output, by have := hg.size; simp [World.setCell]; omega, fun k hk hr => by rw [Below.heap_setCell w' ⟨b, o, none⟩ v k (by simp; omega)]; exact hg.block k hk hr⟩
theorem grown_alloc' {row : Option Nat} (hg : w.grownBy w' row) (o : Obj) : w.grownBy (w'.alloc o) row := hg.trans (grown_alloc w' o row)
/-- A store into another block. -/
theorem RdAt.far (h : RdAt w R D l e A n cap) {b o : Nat} (hR : b ≠ R) (hD : b ≠ D) (v : Value) : RdAt (w.setCell ⟨b, o, none⟩ v) R D l e A n cap :=
  h.kept (grown_set w b o v) (by simpa using hR) (by simpa using hD)
end
end Go.Proofs.Ythfimcbjbkbcjaa
