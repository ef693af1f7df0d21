/- Contracts, joined: WPure, WTake, WRoom, WRead, WBytes, WText, WValue. -/
import Derived.Test.YtldgjahpmlafgaaGreatJParse
import Derived.Deep.AppendLies
import Derived.Deep.Onto
import Derived.Maps.AppendAt
import Derived.Maps.Range
import Derived.OwnWalk
import Derived.IntWalk
import Derived.Laws.CopyOwn
namespace Go.Proofs.YtldgjahpmlafgaaGreat
/- Lists of bytes: numbers written and read, the reader's cell. -/
section
open Go.RowKit

/-- The number of a list of bytes, the highest byte first. -/
def num (l : List Nat) : Nat := l.foldl (fun a x => a * 256 + x) 0
set_option maxRecDepth 100000 in
theorem num_snoc (l : List Nat) (x : Nat) : num (l ++ [x]) = num l * 256 + x := by simp [num]
set_option maxRecDepth 100000 in
theorem take_snoc (l : List Nat) (k : Nat) (h : k < l.length) : l.take (k + 1) = l.take k ++ [l.getD k 0] := by
  rw [List.take_add_one, List.getElem?_eq_getElem h, List.getD_eq_getElem?_getD, List.getElem?_eq_getElem h]
  rfl
set_option maxRecDepth 100000 in
theorem num_take (l : List Nat) (k : Nat) (h : k < l.length) : num (l.take (k + 1)) = num (l.take k) * 256 + l.getD k 0 := by
  rw [take_snoc l k h, num_snoc]
/-- A list of bytes. -/
def Small (l : List Nat) : Prop := ∀ x ∈ l, x < 256
set_option maxRecDepth 100000 in
theorem Small.getD {l : List Nat} (h : Small l) (k : Nat) : l.getD k 0 < 256 := by
  rw [List.getD_eq_getElem?_getD]
  rcases Nat.lt_or_ge k l.length with hk | hk
  · rw [List.getElem?_eq_getElem hk]
    exact h _ (List.getElem_mem hk)
  · rw [List.getElem?_eq_none hk]
    exact (by decide : (0 : Nat) < 256)
set_option maxRecDepth 100000 in
theorem Small.take {l : List Nat} (h : Small l) (k : Nat) : Small (l.take k) := fun x hx => h x (List.mem_of_mem_take hx)
set_option maxRecDepth 100000 in
theorem Small.drop {l : List Nat} (h : Small l) (k : Nat) : Small (l.drop k) := fun x hx => h x (List.mem_of_mem_drop hx)
set_option maxRecDepth 100000 in
theorem Small.append {l m : List Nat} (h : Small l) (k : Small m) : Small (l ++ m) := fun x hx => by
  rcases List.mem_append.1 hx with hx | hx
  · exact h x hx
  · exact k x hx
set_option maxRecDepth 100000 in
theorem Small.nil : Small [] := fun _ h => by cases h
set_option maxRecDepth 100000 in
theorem num_lt (l : List Nat) (hs : Small l) : ∀ k, k ≤ l.length → num (l.take k) < 256 ^ k
  | 0, _ => by simp [num]
  | k + 1, h => by
    have ih := num_lt l hs k (by omega)
    have hk := hs.getD k
    rw [num_take l k (by omega), Nat.pow_succ]
    omega

set_option maxRecDepth 100000 in
theorem i64_or_byte (v x : Nat) (hv : v < 1099511627776) (hx : x < 256) : bits .or .i64 ((v : Int) * 256) (x : Int) = ((v * 256 + x : Nat) : Int) := by
  have h1 : (BitVec.ofInt 64 ((v * 256 : Nat) : Int)).toNat = v * 256 := by rw [BitVec.ofInt_natCast, BitVec.toNat_ofNat]; omega
  have h2 : (BitVec.ofInt 64 (x : Int)).toNat = x := by rw [BitVec.ofInt_natCast, BitVec.toNat_ofNat]; omega
  rw [show ((v : Int) * 256) = ((v * 256 : Nat) : Int) by omega]
  show IntKind.i64.wrap ((BitVec.ofInt 64 ((v * 256 : Nat) : Int) ||| BitVec.ofInt 64 (x : Int)).toNat : Int) = _
  rw [BitVec.toNat_or, h1, h2, Nat.mul_comm v 256, show (256 : Nat) = 2 ^ 8 from rfl, ← Nat.two_pow_add_eq_or_of_lt (i := 8) (b := x) (by omega) v, IntKind.wrap_i64]
  omega
set_option maxRecDepth 100000 in
theorem i64_mask (n : Int) (k : Nat) (hk : k ≤ 62) : bits .and .i64 n ((2 ^ k - 1 : Nat) : Int) = n % ((2 ^ k : Nat) : Int) := by
  have hp : 2 ^ k ≤ 2 ^ 62 := Nat.pow_le_pow_right (by decide) hk
  have hp0 : 0 < 2 ^ k := Nat.pow_pos (by decide)
  have h1 : (BitVec.ofInt 64 ((2 ^ k - 1 : Nat) : Int)).toNat = 2 ^ k - 1 := by rw [BitVec.ofInt_natCast, BitVec.toNat_ofNat]; exact Nat.mod_eq_of_lt (by omega)
  show IntKind.i64.wrap ((BitVec.ofInt 64 n &&& BitVec.ofInt 64 ((2 ^ k - 1 : Nat) : Int)).toNat : Nat) = _
  rw [BitVec.toNat_and, h1, BitVec.toNat_ofInt, Nat.and_two_pow_sub_one_eq_mod]
  have hd : ((2 ^ k : Nat) : Int) ∣ ((2 ^ 64 : Nat) : Int) := Int.natCast_dvd_natCast.2 (Nat.pow_dvd_pow 2 (by omega))
  have e : (((n % ((2 ^ 64 : Nat) : Int)).toNat % 2 ^ k : Nat) : Int) = n % ((2 ^ k : Nat) : Int) := by
    rw [Int.natCast_emod, Int.toNat_of_nonneg (Int.emod_nonneg _ (by decide)), Int.emod_emod_of_dvd _ hd]
  have h2 : 0 ≤ n % ((2 ^ k : Nat) : Int) := Int.emod_nonneg _ (by omega)
  have h3 : n % ((2 ^ k : Nat) : Int) < ((2 ^ k : Nat) : Int) := Int.emod_lt_of_pos _ (by omega)
  rw [IntKind.wrap_i64, e]
  omega
/-- The cells of a list of bytes. -/
def cellsOf (l : List Nat) : List Value := l.map fun (x : Nat) => Value.int .u8 x
set_option maxRecDepth 100000 in
theorem cellsOf_len (l : List Nat) : (cellsOf l).length = l.length := by simp [cellsOf]
set_option maxRecDepth 100000 in
theorem cellsOf_append (l m : List Nat) : cellsOf (l ++ m) = cellsOf l ++ cellsOf m := by simp [cellsOf]
set_option maxRecDepth 100000 in
theorem cellsOf_one (l : List Nat) : ∀ u ∈ cellsOf l, u.oneCell' = true := fun u hu => by
  obtain ⟨x, _, rfl⟩ := List.mem_map.1 hu
  rfl
set_option maxRecDepth 100000 in
theorem cellsOf_get {l : List Nat} {i : Nat} (h : i < l.length) : (cellsOf l)[i]? = some (.int .u8 (l.getD i 0)) := by
  rw [cellsOf, List.getElem?_map, List.getD_eq_getElem?_getD, List.getElem?_eq_getElem h]
  rfl
/-- The bytes l can be read from A on, in block D. -/
def ReadsL (w : World) (D : Nat) (A : Option Addr) (l : List Nat) : Prop :=
  l = [] ∨ ∃ o : Nat, A = some ⟨D, o, none⟩ ∧ D < w.heap.size ∧ ∀ i, i < l.length → w.cell? ⟨D, o + i, none⟩ = some (.int .u8 (l.getD i 0))
set_option maxRecDepth 100000 in
theorem cell_kept {w w' : World} {row : Option Nat} (h : w.grownBy w' row) {b o : Nat} (hb : b < w.heap.size) (hr : some b ≠ row) : w'.cell? ⟨b, o, none⟩ = w.cell? ⟨b, o, none⟩ :=
  h.cell_far ⟨b, o, none⟩ hb hr
set_option maxRecDepth 100000 in
theorem frozen_kept {w w' : World} {row : Option Nat} (h : w.grownBy w' row) {b o : Nat} (hb : b < w.heap.size) (hr : some b ≠ row) : w'.frozen? ⟨b, o, none⟩ = w.frozen? ⟨b, o, none⟩ :=
  h.frozen_far ⟨b, o, none⟩ hb hr
set_option maxRecDepth 100000 in
theorem ReadsL.kept {w w' : World} {D : Nat} {A : Option Addr} {l : List Nat} {row : Option Nat} (h : ReadsL w D A l) (hg : w.grownBy w' row) (hD : row ≠ some D) : ReadsL w' D A l := by
  rcases h with h | ⟨o, rfl, hb, hc⟩
  · exact .inl h
  · exact .inr ⟨o, rfl, Nat.lt_of_lt_of_le hb hg.size, fun i hi => by rw [cell_kept hg hb (Ne.symm hD)]; exact hc i hi⟩
set_option maxRecDepth 100000 in
theorem ReadsL.readsB {w : World} {D : Nat} {A : Option Addr} {l : List Nat} (h : ReadsL w D A l) (hs : Small l) : ReadsB w A l.length (fun i => l.getD i 0) := by
  rcases h with rfl | ⟨o, rfl, hb, hc⟩
  · exact .inl rfl
  · exact .inr ⟨D, o, rfl, hb, hc, fun i _ => hs.getD i⟩
set_option maxRecDepth 100000 in
theorem ReadsL.take {w : World} {D : Nat} {A : Option Addr} {l : List Nat} (h : ReadsL w D A l) (k : Nat) : ReadsL w D A (l.take k) := by
  rcases h with rfl | ⟨o, rfl, hb, hc⟩
  · exact .inl (by simp)
  · refine .inr ⟨o, rfl, hb, fun i hi => ?_⟩
    rw [List.length_take] at hi
    rw [hc i (by omega)]
    congr 3
    rw [List.getD_eq_getElem?_getD, List.getD_eq_getElem?_getD, List.getElem?_take_of_lt (by omega)]
/-- Where a slice begins behind its first k elements. -/
def cutA (A : Option Addr) (cap k : Nat) : Option Addr := if cap = k then A else A.map (·.add k)
set_option maxRecDepth 100000 in
theorem ReadsL.drop {w : World} {D : Nat} {A : Option Addr} {l : List Nat} {cap : Nat} (h : ReadsL w D A l) (k : Nat) (hc0 : l.length ≤ cap) : ReadsL w D (cutA A cap k) (l.drop k) := by
  rcases h with rfl | ⟨o, rfl, hb, hc⟩
  · exact .inl (by simp)
  · rcases Nat.lt_or_ge k l.length with hk | hk
    · refine .inr ⟨o + k, ?_, hb, fun i hi => ?_⟩
      · unfold cutA
        rw [if_neg (by omega)]
        simp only [Option.map_some, Addr.add_mid]
      · rw [List.length_drop] at hi
        rw [Nat.add_assoc, hc (k + i) (by omega)]
        congr 3
        rw [List.getD_eq_getElem?_getD, List.getD_eq_getElem?_getD, List.getElem?_drop]
    · exact .inl (List.drop_eq_nil_of_le hk)

/-- Reader R: its bytes l (in block D), its first error e. -/
structure RdAt (w : World) (R D : Nat) (l : List Nat) (e : Int) (A : Option Addr) (n cap : Nat) : Prop where
  c0 : w.cell? ⟨R, 0, none⟩ = some (.slice A n cap)
  c1 : w.cell? ⟨R, 1, none⟩ = some (.int .i64 e)
  f0 : w.frozen? ⟨R, 0, none⟩ = false
  f1 : w.frozen? ⟨R, 1, none⟩ = false
  lt : R < w.heap.size
  dlt : D < w.heap.size
  len : l.length = n
  le : n ≤ cap
  max : n ≤ 1000000
  small : Small l
  reads : ReadsL w D A l
  apart : D ≠ R
section
variable {w w' : World} {R D n cap : Nat} {l : List Nat} {e : Int} {A : Option Addr}
set_option maxRecDepth 100000 in
theorem RdAt.kept {row : Option Nat} (h : RdAt w R D l e A n cap) (hg : w.grownBy w' row) (hR : row ≠ some R) (hD : row ≠ some D) : RdAt w' R D l e A n cap where
  c0 := by rw [cell_kept hg h.lt (Ne.symm hR)]; exact h.c0
  c1 := by rw [cell_kept hg h.lt (Ne.symm hR)]; exact h.c1
  f0 := by rw [frozen_kept hg h.lt (Ne.symm hR)]; exact h.f0
  f1 := by rw [frozen_kept hg h.lt (Ne.symm hR)]; exact h.f1
  lt := Nat.lt_of_lt_of_le h.lt hg.size
  dlt := Nat.lt_of_lt_of_le h.dlt hg.size
  len := h.len
  le := h.le
  max := h.max
  small := h.small
  reads := h.reads.kept hg hD
  apart := h.apart
set_option maxRecDepth 100000 in
theorem grown_of_below (h : Below w.heap.size w w') (row : Option Nat) : w.grownBy w' row := ⟨h.os, h.tape, h.output, h.size, fun k hk _ => h.block k hk⟩
set_option maxRecDepth 100000 in
theorem below_of_grown (h : w.grownBy w' none) : Below w.heap.size w w' := ⟨h.os, h.tape, h.output, h.size, fun k hk => h.block k hk (by simp)⟩
set_option maxRecDepth 100000 in
theorem grown_set (w : World) (R o : Nat) (v : Value) : w.grownBy (w.setCell ⟨R, o, none⟩ v) (some R) :=
  ⟨rfl, rfl, rfl, by simp [World.setCell], fun k _ hk => Below.heap_setCell w ⟨R, o, none⟩ v k (fun e => hk (by rw [e]))⟩
set_option maxRecDepth 100000 in
theorem grown_alloc (w : World) (o : Obj) (row : Option Nat) : w.grownBy (w.alloc o) row :=
  ⟨rfl, rfl, rfl, by simp, fun k hk _ => Below.heap_alloc w o k hk⟩
set_option maxRecDepth 100000 in
/-- The position moved by k bytes. -/
theorem RdAt.skip (h : RdAt w R D l e A n cap) (k : Nat) (hk : k ≤ n) : RdAt (w.setCell ⟨R, 0, none⟩ (.slice (cutA A cap k) (n - k) (cap - k))) R D (l.drop k) e (cutA A cap k) (n - k) (cap - k) where
  c0 := World.cell?_setCell_same' _ _ _ (by rw [h.c0]; rfl)
  c1 := by rw [World.cell?_setCell_other _ _ _ _ (by simp)]; exact h.c1
  f0 := by rw [World.frozen?_setCell]; exact h.f0
  f1 := by rw [World.frozen?_setCell]; exact h.f1
  lt := by simpa [World.setCell] using h.lt
  dlt := by simpa [World.setCell] using h.dlt
  len := by rw [List.length_drop, h.len]
  le := by have := h.le; omega
  max := by have := h.max; omega
  small := h.small.drop k
  reads := (h.reads.drop k (by rw [h.len]; exact h.le)).kept (grown_set w R 0 _) (by simp; exact fun e => h.apart e.symm)
  apart := h.apart
set_option maxRecDepth 100000 in
/-- The position set back and the first error set. -/
theorem RdAt.back (h : RdAt w R D l e A n cap) {D2 n2 cap2 : Nat} {l2 : List Nat} {e2 : Int} {A2 : Option Addr} (hg : w.grownBy w' (some R)) (h2 : RdAt w' R D2 l2 e2 A2 n2 cap2) (c : Int) :
    RdAt ((w'.setCell ⟨R, 0, none⟩ (.slice A n cap)).setCell ⟨R, 1, none⟩ (.int .i64 c)) R D l c A n cap where
  c0 := by rw [World.cell?_setCell_other _ _ _ _ (by simp)]; exact World.cell?_setCell_same' _ _ _ (by rw [h2.c0]; rfl)
  c1 := World.cell?_setCell_same' _ _ _ (by rw [World.cell?_setCell_other _ _ _ _ (by simp), h2.c1]; rfl)
  f0 := by rw [World.frozen?_setCell, World.frozen?_setCell]; exact h2.f0
  f1 := by rw [World.frozen?_setCell, World.frozen?_setCell]; exact h2.f1
  lt := by simpa [World.setCell] using h2.lt
  dlt := by have := hg.size; have := h.dlt; simp [World.setCell]; omega
  len := h.len
  le := h.le
  max := h.max
  small := h.small
  reads := (h.reads.kept hg (by simp; exact fun e => h.apart e.symm)).kept ((grown_set w' R 0 _).trans (grown_set _ R 1 _)) (by simp; exact fun e => h.apart e.symm)
  apart := h.apart
set_option maxRecDepth 100000 in
/-- The first error set. -/
theorem RdAt.fail (h : RdAt w R D l e A n cap) (c : Int) : RdAt (w.setCell ⟨R, 1, none⟩ (.int .i64 c)) R D l c A n cap where
  c0 := by rw [World.cell?_setCell_other _ _ _ _ (by simp)]; exact h.c0
  c1 := World.cell?_setCell_same' _ _ _ (by rw [h.c1]; rfl)
  f0 := by rw [World.frozen?_setCell]; exact h.f0
  f1 := by rw [World.frozen?_setCell]; exact h.f1
  lt := by simpa [World.setCell] using h.lt
  dlt := by simpa [World.setCell] using h.dlt
  len := h.len
  le := h.le
  max := h.max
  small := h.small
  reads := h.reads.kept (grown_set w R 1 _) (by simp; exact fun e => h.apart e.symm)
  apart := h.apart
theorem grown_new {row : Option Nat} (hg : w.grownBy w' row) {b o : Nat} (hb : w.heap.size ≤ b) (v : Value) : w.grownBy (w'.setCell ⟨b, o, none⟩ v) row :=
  ⟨hg.os, hg.tape, hg.output, by have := hg.size; simp [World.setCell]; omega, fun k hk hr => by rw [Below.heap_setCell w' ⟨b, o, none⟩ v k (by simp; omega)]; exact hg.block k hk hr⟩
theorem grown_alloc' {row : Option Nat} (hg : w.grownBy w' row) (o : Obj) : w.grownBy (w'.alloc o) row := hg.trans (grown_alloc w' o row)
/-- A store into another block. -/
theorem RdAt.far (h : RdAt w R D l e A n cap) {b o : Nat} (hR : b ≠ R) (hD : b ≠ D) (v : Value) : RdAt (w.setCell ⟨b, o, none⟩ v) R D l e A n cap :=
  h.kept (grown_set w b o v) (by simpa using hR) (by simpa using hD)
end
end
/- take of package wire. -/
section
open Go.RowKit

end
/- withRoom of package wire: a copy of its own. -/
section
open Go.RowKit

/-- The call returns a row of its own that holds the bytes l; nothing that there was is changed. -/
def RetL (l : List Nat) (m : Nat) (w : World) (en : Ending) (w' : World) : Prop := ∃ A n cap g, en = .returned (.slice A n cap) ∧ Hid (n = l.length) ∧ w'.ownsRow w.heap.size 5 1 (.slice A n cap) n (cellsOf l) ∧ Below w.heap.size w w' ∧ w.heap.size ≤ g ∧ ReadsL w' g A l ∧ n ≤ cap ∧ cap ≤ maxLen ∧ cap ≤ n + m ∧ g < w'.heap.size
set_option maxRecDepth 100000 in
theorem info_w8 : (Tryz.prog.info? 5).map (fun i => (i.zero, i.size, i.bytes)) = some (some (.int .u8 0), 1, 1) := by kernel_rfl
set_option maxRecDepth 100000 in
theorem size_w8 : (Tryz.prog.info? 5).map (·.size) = some 1 := by kernel_rfl
end
/- readBool, readCount of package wire: what they return. -/
section
open Go.RowKit

section
variable (R D : Nat) (l : List Nat) (A : Option Addr) (n cap : Nat) (w : World)
end
end
/- readBytes of package wire: what it returns. -/
section
open Go.RowKit

/-- Something was read and an error found: only the reader and what is new have changed. -/
def Bad (R D : Nat) (c : Int) (w : World) (en : Ending) (w' : World) : Prop := ∃ x, en = .returned (.tuple #[x, .int .i64 c]) ∧ w.grownBy w' (some R) ∧ ∃ l' A' n' cap', RdAt w' R D l' 0 A' n' cap'
/-- The same of a byte string: none is returned. -/
def BadB (R D : Nat) (c : Int) (w : World) (en : Ending) (w' : World) : Prop := ∃ A cap, en = .returned (.tuple #[.slice A 0 cap, .int .i64 c]) ∧ w.grownBy w' (some R) ∧ ∃ l' A' n' cap', RdAt w' R D l' 0 A' n' cap'
/-- An element was read, and l' is left. -/
def Good (R D : Nat) (val : Value) (l' : List Nat) (w : World) (en : Ending) (w' : World) : Prop := en = .returned (.tuple #[val, .int .i64 0]) ∧ w.grownBy w' (some R) ∧ ∃ A' n' cap', RdAt w' R D l' 0 A' n' cap'
/-- The slice holds the bytes l, in a block of its own. -/
def NewL (w : World) (l : List Nat) (v : Value) (w' : World) : Prop := ∃ A n cap g, v = .slice A n cap ∧ Hid (n = l.length) ∧ w.heap.size ≤ g ∧ ReadsL w' g A l ∧ n ≤ cap ∧ cap ≤ maxLen
/-- A byte string was read, and l' is left. -/
def GoodB (R D : Nat) (x : List Nat) (l' : List Nat) (w : World) (en : Ending) (w' : World) : Prop := ∃ val, NewL w x val w' ∧ Good R D val l' w en w'
section
variable (R D : Nat) (l : List Nat) (A : Option Addr) (n cap : Nat) (w : World)
set_option maxRecDepth 100000 in
theorem Good.of_skip {w : World} {R D : Nat} {l : List Nat} {A : Option Addr} {n cap : Nat} (hR : RdAt w R D l 0 A n cap) (k : Nat) (hk : k ≤ n) (val : Value) :
    Good R D val (l.drop k) w (.returned (.tuple #[val, .int .i64 0])) (w.setCell ⟨R, 0, none⟩ (.slice (cutA A cap k) (n - k) (cap - k))) :=
  ⟨rfl, grown_set w R 0 _, _, _, _, hR.skip k hk⟩
set_option maxRecDepth 100000 in
theorem Bad.of_skip {w : World} {R D : Nat} {l : List Nat} {A : Option Addr} {n cap : Nat} (hR : RdAt w R D l 0 A n cap) (k : Nat) (hk : k ≤ n) (val : Value) (c : Int) :
    Bad R D c w (.returned (.tuple #[val, .int .i64 c])) (w.setCell ⟨R, 0, none⟩ (.slice (cutA A cap k) (n - k) (cap - k))) :=
  ⟨_, rfl, grown_set w R 0 _, _, _, _, _, hR.skip k hk⟩
set_option maxRecDepth 100000 in
theorem Bad.of_same {w : World} {R D : Nat} {l : List Nat} {A : Option Addr} {n cap : Nat} (hR : RdAt w R D l 0 A n cap) (val : Value) (c : Int) :
    Bad R D c w (.returned (.tuple #[val, .int .i64 c])) w :=
  ⟨_, rfl, World.grownBy.refl _ _, _, _, _, _, hR⟩
set_option maxRecDepth 100000 in
theorem BadB.of_skip {w : World} {R D : Nat} {l : List Nat} {A : Option Addr} {n cap : Nat} (hR : RdAt w R D l 0 A n cap) (k : Nat) (hk : k ≤ n) (A2 : Option Addr) (cap2 : Nat) (c : Int) :
    BadB R D c w (.returned (.tuple #[.slice A2 0 cap2, .int .i64 c])) (w.setCell ⟨R, 0, none⟩ (.slice (cutA A cap k) (n - k) (cap - k))) :=
  ⟨_, _, rfl, grown_set w R 0 _, _, _, _, _, hR.skip k hk⟩
set_option maxRecDepth 100000 in
theorem BadB.of_same {w : World} {R D : Nat} {l : List Nat} {A : Option Addr} {n cap : Nat} (hR : RdAt w R D l 0 A n cap) (A2 : Option Addr) (cap2 : Nat) (c : Int) :
    BadB R D c w (.returned (.tuple #[.slice A2 0 cap2, .int .i64 c])) w :=
  ⟨_, _, rfl, World.grownBy.refl _ _, _, _, _, _, hR⟩

end
end
/- readText of package wire: what it returns. -/
section
open Go.RowKit

/-- The string of the bytes l. -/
def strL (l : List Nat) : ByteArray := strN (l.map fun (x : Nat) => (x : Int))
set_option maxRecDepth 100000 in
theorem conv_list {w : World} {D : Nat} {A : Option Addr} {l : List Nat} {n : Nat} (cap : Nat) (h : ReadsL w D A l) (hl : l.length = n) :
    (convert 22 9 (.slice A n cap)).run Tryz.prog w = .ok (.string (strL l)) w := by
  rw [run_convert_bytes_string w 22 9 5 _ _ _ Tryz.underlying22 Tryz.underlying5 Tryz.underlying9]
  rcases h with rfl | ⟨o, rfl, hd, hc⟩
  · obtain rfl : n = 0 := by rw [← hl]; rfl
    cases A with
    | none => rfl
    | some a => exact run_bytesToString w a 0 cap [] (by simpa using run_loadCells_list (P := Tryz.prog) w a [] (by simp))
  · refine run_bytesToString w ⟨D, o, none⟩ n cap (l.map fun (x : Nat) => (x : Int)) ?_
    have e := run_loadCells_list (P := Tryz.prog) w ⟨D, o, none⟩ (cellsOf l) (fun j v hv => by
      have hj : j < l.length := by have := (List.getElem?_eq_some_iff.1 hv).1; rwa [cellsOf_len] at this
      rw [cellsOf_get hj] at hv
      rw [Addr.add_mid, hc j hj, hv])
    rw [cellsOf_len, hl] at e
    simpa [cellsOf, Function.comp_def] using e
/-- A text consists of bytes from 32 to 126. -/
def plain (l : List Nat) : Bool := l.all fun x => decide (32 ≤ x) && decide (x ≤ 126)
set_option maxRecDepth 100000 in
/-- The index of the first byte that is none of a text. -/
theorem not_plain {l : List Nat} (h : plain l = false) : ∃ k, k < l.length ∧ (∀ i, i < k → 32 ≤ l.getD i 0 ∧ l.getD i 0 ≤ 126) ∧ (l.getD k 0 < 32 ∨ 126 < l.getD k 0) := by
  induction l with
  | nil => simp [plain] at h
  | cons x t ih =>
    by_cases hx : 32 ≤ x ∧ x ≤ 126
    · have ht : plain t = false := by
        simp only [plain, List.all_cons, hx.1, hx.2, decide_true, Bool.and_self, Bool.true_and] at h
        exact h
      obtain ⟨k, h1, h2, h3⟩ := ih ht
      refine ⟨k + 1, by simp; omega, fun i hi => ?_, by simpa using h3⟩
      cases i with
      | zero => simpa using hx
      | succ i => simpa using h2 i (by omega)
    · exact ⟨0, by simp, fun i hi => absurd hi (by omega), by simp; omega⟩
set_option maxRecDepth 100000 in
theorem plain_at {l : List Nat} (h : plain l = true) (k : Nat) (hk : k < l.length) : 32 ≤ l.getD k 0 ∧ l.getD k 0 ≤ 126 := by
  have := List.all_eq_true.1 h (l.getD k 0) (by rw [List.getD_eq_getElem?_getD, List.getElem?_eq_getElem hk]; exact List.getElem_mem hk)
  simpa using this

section
variable (R D : Nat) (l : List Nat) (A : Option Addr) (n cap : Nat) (w : World)
end
end
/- readValue of package wire: what it returns. -/
section
open Go.RowKit

def valOf (a : Nat) : Value := .agg #[.int .u64 (hi a), .int .u64 (lo a)]
/-- What Parse says of the bytes l. -/
def pE (l : List Nat) : Int := parseE l.length fun i => l.getD i 0
def pV (l : List Nat) : Nat := parseV l.length fun i => l.getD i 0
/-- An error was found by readValue. -/
def BadV (R D : Nat) (c : Int) (w : World) (en : Ending) (w' : World) : Prop := en = .returned (.tuple #[.agg #[.int .u64 0, .int .u64 0], .int .i64 c]) ∧ w.grownBy w' (some R) ∧ ∃ l' A' n' cap', RdAt w' R D l' 0 A' n' cap'
section
variable (R D : Nat) (l : List Nat) (A : Option Addr) (n cap : Nat) (w : World)
end
end
theorem set_other (w : World) (X i j : Nat) (u : Value) (h : i ≠ j) : (w.setCell ⟨X, i, none⟩ u).cell? ⟨X, j, none⟩ = w.cell? ⟨X, j, none⟩ :=
  World.cell?_setCell_other _ _ _ _ (by intro e; injection e with _ e _; exact h e)
theorem set_same {w : World} {X i : Nat} {u : Value} (x : Value) (h : w.cell? ⟨X, i, none⟩ = some u) : (w.setCell ⟨X, i, none⟩ x).cell? ⟨X, i, none⟩ = some x := World.cell?_setCell_same _ _ _ h
theorem set_froz (w : World) (X i j : Nat) (u : Value) : (w.setCell ⟨X, i, none⟩ u).frozen? ⟨X, j, none⟩ = w.frozen? ⟨X, j, none⟩ := by simp
end Go.Proofs.YtldgjahpmlafgaaGreat
