/- Contracts, joined: WPure, WTake, WRoom, WRead, WBytes, WText, WValue. -/
import Derived.Test.YtljmiickhkkceaaJParse
import Derived.Deep.AppendLies
import Derived.Deep.Onto
import Derived.Maps.AppendAt
import Derived.Maps.Range
import Derived.OwnWalk
import Derived.IntWalk
import Derived.Laws.CopyOwn
namespace Go.Proofs.Ytljmiickhkkceaa
/- Lists of bytes: numbers written and read, the reader's cell. -/
section
open Go.RowKit

/-- The number of a list of bytes, the highest byte first. -/
def num (l : List Nat) : Nat := l.foldl (fun a x => a * 256 + x) 0
set_option maxRecDepth 100000 in
theorem num_snoc (l : List Nat) (x : Nat) : num (l ++ [x]) = num l * 256 + x := by simp [num]
set_option maxRecDepth 100000 in
theorem take_snoc (l : List Nat) (k : Nat) (h : k < l.length) : l.take (k + 1) = l.take k ++ [l.getD k 0] := by
  rw [List.take_add_one, List.getElem?_eq_getElem h, List.getD_eq_getElem?_getD, List.getElem?_eq_getElem h]
  rfl
set_option maxRecDepth 100000 in
theorem num_take (l : List Nat) (k : Nat) (h : k < l.length) : num (l.take (k + 1)) = num (l.take k) * 256 + l.getD k 0 := by
  rw [take_snoc l k h, num_snoc]
/-- A list of bytes. -/
def Small (l : List Nat) : Prop := ∀ x ∈ l, x < 256
set_option maxRecDepth 100000 in
theorem Small.getD {l : List Nat} (h : Small l) (k : Nat) : l.getD k 0 < 256 := by
  rw [List.getD_eq_getElem?_getD]
  rcases Nat.lt_or_ge k l.length with hk | hk
  · rw [List.getElem?_eq_getElem hk]
    exact h _ (List.getElem_mem hk)
  · rw [List.getElem?_eq_none hk]
    exact (by decide : (0 : Nat) < 256)
set_option maxRecDepth 100000 in
theorem Small.take {l : List Nat} (h : Small l) (k : Nat) : Small (l.take k) := fun x hx => h x (List.mem_of_mem_take hx)
set_option maxRecDepth 100000 in
theorem Small.drop {l : List Nat} (h : Small l) (k : Nat) : Small (l.drop k) := fun x hx => h x (List.mem_of_mem_drop hx)
set_option maxRecDepth 100000 in
theorem Small.append {l m : List Nat} (h : Small l) (k : Small m) : Small (l ++ m) := fun x hx => by
  rcases List.mem_append.1 hx with hx | hx
  · exact h x hx
  · exact k x hx
set_option maxRecDepth 100000 in
theorem Small.nil : Small [] := fun _ h => by cases h
set_option maxRecDepth 100000 in
theorem num_lt (l : List Nat) (hs : Small l) : ∀ k, k ≤ l.length → num (l.take k) < 256 ^ k
  | 0, _ => by simp [num]
  | k + 1, h => by
    have ih := num_lt l hs k (by omega)
    have hk := hs.getD k
    rw [num_take l k (by omega), Nat.pow_succ]
    omega

set_option maxRecDepth 100000 in
theorem i64_or_byte (v x : Nat) (hv : v < 1099511627776) (hx : x < 256) : bits .or .i64 ((v : Int) * 256) (x : Int) = ((v * 256 + x : Nat) : Int) := by
  have h1 : (BitVec.ofInt 64 ((v * 256 : Nat) : Int)).toNat = v * 256 := by rw [BitVec.ofInt_natCast, BitVec.toNat_ofNat]; omega
  have h2 : (BitVec.ofInt 64 (x : Int)).toNat = x := by rw [BitVec.ofInt_natCast, BitVec.toNat_ofNat]; omega
  rw [show ((v : Int) * 256) = ((v * 256 : Nat) : Int) by omega]
  show IntKind.i64.wrap ((BitVec.ofInt 64 ((v * 256 : Nat) : Int) ||| BitVec.ofInt 64 (x : Int)).toNat : Int) = _
  rw [BitVec.toNat_or, h1, h2, Nat.mul_comm v 256, show (256 : Nat) = 2 ^ 8 from rfl, ← Nat.two_pow_add_eq_or_of_lt (i := 8) (b := x) (by omega) v, IntKind.wrap_i64]
  omega
set_option maxRecDepth 100000 in
theorem i64_mask (n : Int) (k : Nat) (hk : k ≤ 62) : bits .and .i64 n ((2 ^ k - 1 : Nat) : Int) = n % ((2 ^ k : Nat) : Int) := by
  have hp : 2 ^ k ≤ 2 ^ 62 := Nat.pow_le_pow_right (by decide) hk
  have hp0 : 0 < 2 ^ k := Nat.pow_pos (by decide)
  have h1 : (BitVec.ofInt 64 ((2 ^ k - 1 : Nat) : Int)).toNat = 2 ^ k - 1 := by rw [BitVec.ofInt_natCast, BitVec.toNat_ofNat]; exact Nat.mod_eq_of_lt (by omega)
  show IntKind.i64.wrap ((BitVec.ofInt 64 n &&& BitVec.ofInt 64 ((2 ^ k - 1 : Nat) : Int)).toNat : Nat) = _
  rw [BitVec.toNat_and, h1, BitVec.toNat_ofInt, Nat.and_two_pow_sub_one_eq_mod]
  have hd : ((2 ^ k : Nat) : Int) ∣ ((2 ^ 64 : Nat) : Int) := Int.natCast_dvd_natCast.2 (Nat.pow_dvd_pow 2 (by omega))
  have e : (((n % ((2 ^ 64 : Nat) : Int)).toNat % 2 ^ k : Nat) : Int) = n % ((2 ^ k : Nat) : Int) := by
    rw [Int.natCast_emod, Int.toNat_of_nonneg (Int.emod_nonneg _ (by decide)), Int.emod_emod_of_dvd _ hd]
  have h2 : 0 ≤ n % ((2 ^ k : Nat) : Int) := Int.emod_nonneg _ (by omega)
  have h3 : n % ((2 ^ k : Nat) : Int) < ((2 ^ k : Nat) : Int) := Int.emod_lt_of_pos _ (by omega)
  rw [IntKind.wrap_i64, e]
  omega
/-- The cells of a list of bytes. -/
def cellsOf (l : List Nat) : List Value := l.map fun (x : Nat) => Value.int .u8 x
set_option maxRecDepth 100000 in
theorem cellsOf_len (l : List Nat) : (cellsOf l).length = l.length := by simp [cellsOf]
set_option maxRecDepth 100000 in
theorem cellsOf_append (l m : List Nat) : cellsOf (l ++ m) = cellsOf l ++ cellsOf m := by simp [cellsOf]
set_option maxRecDepth 100000 in
theorem cellsOf_one (l : List Nat) : ∀ u ∈ cellsOf l, u.oneCell' = true := fun u hu => by
  obtain ⟨x, _, rfl⟩ := List.mem_map.1 hu
  rfl
set_option maxRecDepth 100000 in
theorem cellsOf_get {l : List Nat} {i : Nat} (h : i < l.length) : (cellsOf l)[i]? = some (.int .u8 (l.getD i 0)) := by
  rw [cellsOf, List.getElem?_map, List.getD_eq_getElem?_getD, List.getElem?_eq_getElem h]
  rfl
/-- The bytes l can be read from A on, in block D. -/
def ReadsL (w : World) (D : Nat) (A : Option Addr) (l : List Nat) : Prop :=
  l = [] ∨ ∃ o : Nat, A = some ⟨D, o, none⟩ ∧ D < w.heap.size ∧ ∀ i, i < l.length → w.cell? ⟨D, o + i, none⟩ = some (.int .u8 (l.getD i 0))
set_option maxRecDepth 100000 in
theorem cell_kept {w w' : World} {row : Option Nat} (h : w.grownBy w' row) {b o : Nat} (hb : b < w.heap.size) (hr : some b ≠ row) : w'.cell? ⟨b, o, none⟩ = w.cell? ⟨b, o, none⟩ :=
  h.cell_far ⟨b, o, none⟩ hb hr
set_option maxRecDepth 100000 in
theorem frozen_kept {w w' : World} {row : Option Nat} (h : w.grownBy w' row) {b o : Nat} (hb : b < w.heap.size) (hr : some b ≠ row) : w'.frozen? ⟨b, o, none⟩ = w.frozen? ⟨b, o, none⟩ :=
  h.frozen_far ⟨b, o, none⟩ hb hr
set_option maxRecDepth 100000 in
theorem ReadsL.kept {w w' : World} {D : Nat} {A : Option Addr} {l : List Nat} {row : Option Nat} (h : ReadsL w D A l) (hg : w.grownBy w' row) (hD : row ≠ some D) : ReadsL w' D A l := by
  rcases h with h | ⟨o, rfl, hb, hc⟩
  · exact .inl h
  · exact .inr ⟨o, rfl, Nat.lt_of_lt_of_le hb hg.size, fun i hi => by rw [cell_kept hg hb (Ne.symm hD)]; exact hc i hi⟩
set_option maxRecDepth 100000 in
theorem ReadsL.readsB {w : World} {D : Nat} {A : Option Addr} {l : List Nat} (h : ReadsL w D A l) (hs : Small l) : ReadsB w A l.length (fun i => l.getD i 0) := by
  rcases h with rfl | ⟨o, rfl, hb, hc⟩
  · exact .inl rfl
  · exact .inr ⟨D, o, rfl, hb, hc, fun i _ => hs.getD i⟩
set_option maxRecDepth 100000 in
theorem ReadsL.take {w : World} {D : Nat} {A : Option Addr} {l : List Nat} (h : ReadsL w D A l) (k : Nat) : ReadsL w D A (l.take k) := by
  rcases h with rfl | ⟨o, rfl, hb, hc⟩
  · exact .inl (by simp)
  · refine .inr ⟨o, rfl, hb, fun i hi => ?_⟩
    rw [List.length_take] at hi
    rw [hc i (by omega)]
    congr 3
    rw [List.getD_eq_getElem?_getD, List.getD_eq_getElem?_getD, List.getElem?_take_of_lt (by omega)]
/-- Where a slice begins behind its first k elements. -/
def cutA (A : Option Addr) (cap k : Nat) : Option Addr := if cap = k then A else A.map (·.add k)
set_option maxRecDepth 100000 in
theorem ReadsL.drop {w : World} {D : Nat} {A : Option Addr} {l : List Nat} {cap : Nat} (h : ReadsL w D A l) (k : Nat) (hc0 : l.length ≤ cap) : ReadsL w D (cutA A cap k) (l.drop k) := by
  rcases h with rfl | ⟨o, rfl, hb, hc⟩
  · exact .inl (by simp)
  · rcases Nat.lt_or_ge k l.length with hk | hk
    · refine .inr ⟨o + k, ?_, hb, fun i hi => ?_⟩
      · unfold cutA
        rw [if_neg (by omega)]
        simp only [Option.map_some, Addr.add_mid]
      · rw [List.length_drop] at hi
        rw [Nat.add_assoc, hc (k + i) (by omega)]
        congr 3
        rw [List.getD_eq_getElem?_getD, List.getD_eq_getElem?_getD, List.getElem?_drop]
    · exact .inl (List.drop_eq_nil_of_le hk)

/-- Reader R: its bytes l (in block D), its first error e. -/
structure RdAt (w : World) (R D : Nat) (l : List Nat) (e : Int) (A : Option Addr) (n cap : Nat) : Prop where
  c0 : w.cell? ⟨R, 0, none⟩ = some (.slice A n cap)
  c1 : w.cell? ⟨R, 1, none⟩ = some (.int .i64 e)
  f0 : w.frozen? ⟨R, 0, none⟩ = false
  f1 : w.frozen? ⟨R, 1, none⟩ = false
  lt : R < w.heap.size
  dlt : D < w.heap.size
  len : l.length = n
  le : n ≤ cap
  max : n ≤ 1000000
  small : Small l
  reads : ReadsL w D A l
  apart : D ≠ R
section
variable {w w' : World} {R D n cap : Nat} {l : List Nat} {e : Int} {A : Option Addr}
set_option maxRecDepth 100000 in
theorem RdAt.kept {row : Option Nat} (h : RdAt w R D l e A n cap) (hg : w.grownBy w' row) (hR : row ≠ some R) (hD : row ≠ some D) : RdAt w' R D l e A n cap where
  c0 := by rw [cell_kept hg h.lt (Ne.symm hR)]; exact h.c0
  c1 := by rw [cell_kept hg h.lt (Ne.symm hR)]; exact h.c1
  f0 := by rw [frozen_kept hg h.lt (Ne.symm hR)]; exact h.f0
  f1 := by rw [frozen_kept hg h.lt (Ne.symm hR)]; exact h.f1
  lt := Nat.lt_of_lt_of_le h.lt hg.size
  dlt := Nat.lt_of_lt_of_le h.dlt hg.size
  len := h.len
  le := h.le
  max := h.max
  small := h.small
  reads := h.reads.kept hg hD
  apart := h.apart
set_option maxRecDepth 100000 in
theorem grown_of_below (h : Below w.heap.size w w') (row : Option Nat) : w.grownBy w' row := ⟨h.os, h.tape, h.output, h.size, fun k hk _ => h.block k hk⟩
set_option maxRecDepth 100000 in
theorem below_of_grown (h : w.grownBy w' none) : Below w.heap.size w w' := ⟨h.os, h.tape, h.output, h.size, fun k hk => h.block k hk (by simp)⟩
set_option maxRecDepth 100000 in
theorem grown_set (w : World) (R o : Nat) (v : Value) : w.grownBy (w.setCell ⟨R, o, none⟩ v) (some R) :=
  ⟨rfl, rfl, rfl, by simp [World.setCell], fun k _ hk => Below.heap_setCell w ⟨R, o, none⟩ v k (fun e => hk (by rw [e]))⟩
set_option maxRecDepth 100000 in
theorem grown_alloc (w : World) (o : Obj) (row : Option Nat) : w.grownBy (w.alloc o) row :=
  ⟨rfl, rfl, rfl, by simp, fun k hk _ => Below.heap_alloc w o k hk⟩
set_option maxRecDepth 100000 in
/-- The position moved by k bytes. -/
theorem RdAt.skip (h : RdAt w R D l e A n cap) (k : Nat) (hk : k ≤ n) : RdAt (w.setCell ⟨R, 0, none⟩ (.slice (cutA A cap k) (n - k) (cap - k))) R D (l.drop k) e (cutA A cap k) (n - k) (cap - k) where
  c0 := World.cell?_setCell_same' _ _ _ (by rw [h.c0]; rfl)
  c1 := by rw [World.cell?_setCell_other _ _ _ _ (by simp)]; exact h.c1
  f0 := by rw [World.frozen?_setCell]; exact h.f0
  f1 := by rw [World.frozen?_setCell]; exact h.f1
  lt := by simpa [World.setCell] using h.lt
  dlt := by simpa [World.setCell] using h.dlt
  len := by rw [List.length_drop, h.len]
  le := by have := h.le; omega
  max := by have := h.max; omega
  small := h.small.drop k
  reads := (h.reads.drop k (by rw [h.len]; exact h.le)).kept (grown_set w R 0 _) (by simp; exact fun e => h.apart e.symm)
  apart := h.apart
set_option maxRecDepth 100000 in
/-- The position set back and the first error set. -/
theorem RdAt.back (h : RdAt w R D l e A n cap) {D2 n2 cap2 : Nat} {l2 : List Nat} {e2 : Int} {A2 : Option Addr} (hg : w.grownBy w' (some R)) (h2 : RdAt w' R D2 l2 e2 A2 n2 cap2) (c : Int) :
    RdAt ((w'.setCell ⟨R, 0, none⟩ (.slice A n cap)).setCell ⟨R, 1, none⟩ (.int .i64 c)) R D l c A n cap where
  c0 := by rw [World.cell?_setCell_other _ _ _ _ (by simp)]; exact World.cell?_setCell_same' _ _ _ (by rw [h2.c0]; rfl)
  c1 := World.cell?_setCell_same' _ _ _ (by rw [World.cell?_setCell_other _ _ _ _ (by simp), h2.c1]; rfl)
  f0 := by rw [World.frozen?_setCell, World.frozen?_setCell]; exact h2.f0
  f1 := by rw [World.frozen?_setCell, World.frozen?_setCell]; exact h2.f1
  lt := by simpa [World.setCell] using h2.lt
  dlt := by have := hg.size; have := h.dlt; simp [World.setCell]; omega
  len := h.len
  le := h.le
  max := h.max
  small := h.small
  reads := (h.reads.kept hg (by simp; exact fun e => h.apart e.symm)).kept ((grown_set w' R 0 _).trans (grown_set _ R 1 _)) (by simp; exact fun e => h.apart e.symm)
  apart := h.apart
set_option maxRecDepth 100000 in
/-- The first error set. -/
theorem RdAt.fail (h : RdAt w R D l e A n cap) (c : Int) : RdAt (w.setCell ⟨R, 1, none⟩ (.int .i64 c)) R D l c A n cap where
  c0 := by rw [World.cell?_setCell_other _ _ _ _ (by simp)]; exact h.c0
  c1 := World.cell?_setCell_same' _ _ _ (by rw [h.c1]; rfl)
  f0 := by rw [World.frozen?_setCell]; exact h.f0
  f1 := by rw [World.frozen?_setCell]; exact h.f1
  lt := by simpa [World.setCell] using h.lt
  dlt := by simpa [World.setCell] using h.dlt
  len := h.len
  le := h.le
  max := h.max
  small := h.small
  reads := h.reads.kept (grown_set w R 1 _) (by simp; exact fun e => h.apart e.symm)
  apart := h.apart
theorem grown_new {row : Option Nat} (hg : w.grownBy w' row) {b o : Nat} (hb : w.heap.size ≤ b) (v : Value) : w.grownBy (w'.setCell ⟨b, o, none⟩ v) row :=
  ⟨hg.os, hg.tape, hg.output, by have := hg.size; simp [World.setCell]; omega, fun k hk hr => by rw [Below.heap_setCell w' ⟨b, o, none⟩ v k (by simp; omega)]; exact hg.block k hk hr⟩
theorem grown_alloc' {row : Option Nat} (hg : w.grownBy w' row) (o : Obj) : w.grownBy (w'.alloc o) row := hg.trans (grown_alloc w' o row)
/-- A store into another block. -/
theorem RdAt.far (h : RdAt w R D l e A n cap) {b o : Nat} (hR : b ≠ R) (hD : b ≠ D) (v : Value) : RdAt (w.setCell ⟨b, o, none⟩ v) R D l e A n cap :=
  h.kept (grown_set w b o v) (by simpa using hR) (by simpa using hD)
end
end
/- take of package wire. -/
section
open Go.RowKit

set_option maxRecDepth 100000 in
theorem take_short (R k : Nat) (A : Option Addr) (n cap : Nat) (w : World) (hc : w.cell? ⟨R, 0, none⟩ = some (.slice A n cap)) (h : n < k) :
    Calls Try.prog 123 #[.pointer (some ⟨R, 0, none⟩), .int .i64 k] w fun e w' => e = .returned (.tuple #[.slice none 0 0, .int .i64 1]) ∧ w = w' := by
  have h1 : (n : Int) < (k : Int) := by omega
  go_enter Try.func123, Try.ntmps123
  go_wp2
  go_ret2
  exact ⟨rfl, rfl⟩
set_option maxRecDepth 100000 in
theorem take_ok (R k : Nat) (A : Option Addr) (n cap : Nat) (w : World) (hc : w.cell? ⟨R, 0, none⟩ = some (.slice A n cap)) (hf : w.frozen? ⟨R, 0, none⟩ = false) (h : k ≤ n) (hn : n ≤ cap) :
    Calls Try.prog 123 #[.pointer (some ⟨R, 0, none⟩), .int .i64 k] w fun e w' => e = .returned (.tuple #[.slice A k cap, .int .i64 0]) ∧ w' = w.setCell ⟨R, 0, none⟩ (.slice (cutA A cap k) (n - k) (cap - k)) := by
  have h1 : decide ((n : Int) < (k : Int)) = false := by simp; omega
  have h2 : (k : Int) ≤ (n : Int) := by omega
  have h3 : (n : Int) ≤ (cap : Int) := by omega
  have h4 : (k : Int) ≤ (cap : Int) := by omega
  go_enter Try.func123, Try.ntmps123
  go_wp2
  all_goals go_ret2
  all_goals refine ⟨rfl, ?_⟩
  all_goals simp [cutA, *]

set_option maxRecDepth 100000 in
theorem isuint_yes (k : Nat) (w : World) (h1 : 1 ≤ k) (h2 : k ≤ 4) : Calls Try.prog 113 #[.int .i64 k] w fun e w' => e = .returned (.bool true) ∧ w = w' := by
  have h3 : 1 ≤ (k : Int) := by omega
  have h4 : (k : Int) ≤ 4 := by omega
  go_enter Try.func113, Try.ntmps113
  go_wp2
  go_ret
  exact ⟨by simp [*], rfl⟩
set_option maxRecDepth 100000 in
theorem ruint_bad (v : Value) (k : Int) (w : World) (h : k < 1 ∨ 4 < k) (h1 : -9223372036854775808 ≤ k) (h2 : k ≤ 9223372036854775807) :
    Calls Try.prog 105 #[v, .int .i64 k] w fun e w' => e = .returned (.tuple #[.int .i64 0, .int .i64 4]) ∧ w = w' := by
  rcases h with h | h
  · have h3 : decide (1 ≤ k) = false := by simp; omega
    clear h
    go_enter Try.func105, Try.ntmps105
    go_wp2
    go_ret2
    exact ⟨rfl, rfl⟩
  · have h3 : decide (k ≤ 4) = false := by simp; omega
    have h4 : 1 ≤ k := by omega
    clear h
    go_enter Try.func105, Try.ntmps105
    go_wp2
    go_ret2
    exact ⟨rfl, rfl⟩
set_option maxRecDepth 100000 in
theorem ruint_short (R k : Nat) (A : Option Addr) (n cap : Nat) (w : World) (hc : w.cell? ⟨R, 0, none⟩ = some (.slice A n cap)) (hk1 : 1 ≤ k) (hk2 : k ≤ 4) (h : n < k) :
    Calls Try.prog 105 #[.pointer (some ⟨R, 0, none⟩), .int .i64 k] w fun e w' => e = .returned (.tuple #[.int .i64 0, .int .i64 1]) ∧ w = w' := by
  go_enter Try.func105, Try.ntmps105
  go_wp2_with (first | (go_at_call 113; refine (isuint_yes k _ hk1 hk2).mono ?_; rintro e w' ⟨rfl, rfl⟩) | (go_at_call 123; refine (take_short R k A n cap _ hc h).mono ?_; rintro e w' ⟨rfl, rfl⟩))
  go_loop [8, 10, 22] (fun m _ i => m = .int .i64 0 ∧ i = .int .i64 0) (fun _ _ _ => 0)
  case atStart => exact ⟨rfl, rfl⟩
  case round =>
    obtain ⟨rfl, rfl⟩ := hrel
    go_wp2
    go_ret2
    exact ⟨rfl, rfl⟩
set_option maxRecDepth 100000 in
theorem ruint_ok (R D k : Nat) (l : List Nat) (e : Int) (A : Option Addr) (n cap : Nat) (w : World) (hR : RdAt w R D l e A n cap) (hk1 : 1 ≤ k) (hk2 : k ≤ 4) (h : k ≤ n) :
    Calls Try.prog 105 #[.pointer (some ⟨R, 0, none⟩), .int .i64 k] w fun e w' => e = .returned (.tuple #[.int .i64 (num (l.take k)), .int .i64 0]) ∧
      w' = w.setCell ⟨R, 0, none⟩ (.slice (cutA A cap k) (n - k) (cap - k)) := by
  obtain ⟨o, rfl, hb, hc⟩ := hR.reads.resolve_left (fun e => by have := hR.len; rw [e] at this; simp at this; omega)
  have HL := Lib.hid hR.len
  have HR := Lib.hid hR
  have HC := Lib.hid hc
  clear hc
  go_enter Try.func105, Try.ntmps105
  go_wp2_with (first | (go_at_call 113; refine (isuint_yes k _ hk1 hk2).mono ?_; rintro e w' ⟨rfl, rfl⟩) | (go_at_call 123; refine (take_ok R k _ n cap _ HR.out.c0 HR.out.f0 h HR.out.le).mono ?_; rintro e w' ⟨rfl, rfl⟩))
  have hc2 : ∀ i, i < k → (w.setCell ⟨R, 0, none⟩ (.slice (cutA (some ⟨D, o, none⟩) cap k) (n - k) (cap - k))).cell? ⟨D, o + i, none⟩ = some (.int .u8 (l.getD i 0)) := fun i hi => by
    rw [World.cell?_setCell_far _ _ _ _ (fun e => HR.out.apart e.symm)]
    exact HC.out i (by have := HL.out; omega)
  have HC2 := Lib.hid hc2
  clear hc2
  generalize hW : w.setCell _ _ = W at HC2 ⊢
  have HW := Lib.hid hW
  clear hW
  go_loop [8, 10, 22] (fun m x i => ∃ j : Nat, j ≤ k ∧ i = .int .i64 j ∧ m = .int .i64 (num (l.take j))) (fun _ _ i => k - (intOf i).toNat)
  case atStart => exact ⟨0, by omega, rfl, rfl⟩
  case round =>
    obtain ⟨j, hj, rfl, rfl⟩ := hrel
    by_cases hlt : j < k
    · have i0 := HC2.out j hlt
      have hx := HR.out.small.getD j
      have hm := num_lt l HR.out.small j (by have := HL.out; omega)
      have hm2 : num (l.take j) < 16777216 := Nat.lt_of_lt_of_le hm (Nat.pow_le_pow_right (n := 256) (by decide) (show j ≤ 3 by omega))
      have HN := Lib.hid (num_take l j (by have := HL.out; omega))
      generalize num (l.take j) = v at *
      generalize l.getD j 0 = x at *
      have hlt' : (j : Int) < (k : Int) := by omega
      clear hm
      go_wp2
      rw [i64_or_byte v x (by omega) hx]
      go_round
      case rel => exact ⟨j + 1, by omega, by simp, by rw [HN.out]⟩
      case measure => simp [intOf]; omega
    · obtain rfl : j = k := by omega
      go_wp2
      go_ret2
      exact ⟨rfl, HW.out.symm⟩
end
/- withRoom of package wire: a copy of its own. -/
section
open Go.RowKit

/-- The call returns a row of its own that holds the bytes l; nothing that there was is changed. -/
def RetL (l : List Nat) (m : Nat) (w : World) (en : Ending) (w' : World) : Prop := ∃ A n cap g, en = .returned (.slice A n cap) ∧ Hid (n = l.length) ∧ w'.ownsRow w.heap.size 5 1 (.slice A n cap) n (cellsOf l) ∧ Below w.heap.size w w' ∧ w.heap.size ≤ g ∧ ReadsL w' g A l ∧ n ≤ cap ∧ cap ≤ maxLen ∧ cap ≤ n + m ∧ g < w'.heap.size
set_option maxRecDepth 100000 in
theorem info_w8 : (Try.prog.info? 5).map (fun i => (i.zero, i.size, i.bytes)) = some (some (.int .u8 0), 1, 1) := by kernel_rfl
set_option maxRecDepth 100000 in
theorem size_w8 : (Try.prog.info? 5).map (·.size) = some 1 := by kernel_rfl
set_option maxRecDepth 100000 in
theorem room_any (A : Option Addr) (D n cap m : Nat) (l : List Nat) (w : World) (hr : ReadsL w D A l) (hl : l.length = n) (hn : n ≤ 2000000) (hm : m ≤ 2000000) :
    Calls Try.prog 67 #[.slice A n cap, .int .i64 m] w (RetL l m w) := by
  obtain ⟨i0, hi0, hz0, hy1, hy2⟩ := info_parts info_w8
  have hmk : ∀ w : World, (Instr.makeSlice 32 (.int .i64 n) (.int .i64 ((n : Int) + (m : Int)))).run Try.prog w = .ok (.slice (some ⟨w.heap.size, 0, none⟩) n (n + m)) (w.alloc (.cells (List.replicate (n + m) (Value.int .u8 0)).toArray 5)) := fun w => by
    have h := run_make (P := Try.prog) w 32 5 i0 _ Try.underlying32 hi0 hz0 .i64 .i64 (n : Int) ((n : Int) + (m : Int)) (by omega) (by omega) (by rw [hy2]; omega) (by omega)
    rw [h, hy1]
    congr 3
    apply Array.ext'
    have e : ((n : Int) + (m : Int)).toNat * 1 = n + m := by omega
    exact (congrArg (fun k => (madeCells #[Value.int .u8 0] k).toList) e).trans (toList_madeCells_one _ _)
  have HL := Lib.hid hl
  have HR := Lib.hid hr
  clear hl hr hi0 hz0 hy1 hy2
  have hm1 : (n : Int) ≤ 2000000 := by omega
  have hm2 : (m : Int) ≤ 2000000 := by omega
  have hpos : Hid (0 < (cellsOf l).length → some (⟨w.heap.size, 0, none⟩ : Addr) = some ⟨w.heap.size, 0, none⟩ ∧ ∃ ad, A = some ad ∧ ∀ j v, (cellsOf l)[j]? = some v → (w.alloc (Obj.cells (Array.replicate (n + m) (Value.int IntKind.u8 0)) 5)).cell? (ad.add j) = some v) := Lib.hid (fun h0 => by
    rw [cellsOf_len] at h0
    obtain ⟨o, rfl, hd, hc⟩ := HR.out.resolve_left (fun e => by rw [e] at h0; simp at h0)
    refine ⟨rfl, _, rfl, fun j v hv => ?_⟩
    have hj : j < l.length := by have := (List.getElem?_eq_some_iff.1 hv).1; rwa [cellsOf_len] at this
    rw [cellsOf_get hj] at hv
    rw [Addr.add_mid, World.cell?_alloc_past _ _ _ hd, hc j hj, hv])
  go_enter Try.func67, Try.ntmps67
  have HM := Lib.hid (List.length_replicate (n := n + m) (a := Value.int .u8 0))
  go_wp2_with ((with_reducible refine wpList_copy_splice rfl (.tmp 13) (.tmp 14) 32 32 rfl 5 Try.underlying32 size_w8 (some ⟨w.heap.size, 0, none⟩) A n (n + m) n cap rfl rfl w.heap.size 0 (List.replicate (n + m) (Value.int .u8 0)) 5 (by rw [heap_alloc_new]; simp) (cellsOf l) (by rw [cellsOf_len, HL.out]; simp) hpos.out (by rw [cellsOf_len, HL.out, HM.out]; omega) (cellsOf_one l) w.heap.size w ((Below.refl _ _).alloc (Nat.le_refl _) _) (Nat.le_refl _) ?_); rintro w' hw hb)
  go_ret
  have hL := HL.out
  have hle : w.heap.size < w'.heap.size := by
    rcases Nat.lt_or_ge w.heap.size w'.heap.size with h | h
    · exact h
    · have h2 := hw.out; rw [Array.getElem?_eq_none h] at h2; cases h2
  have hcell : ∀ i, i < l.length → w'.cell? ⟨w.heap.size, 0 + i, none⟩ = some (.int .u8 (l.getD i 0)) := fun i hi => by
    rw [cell_of_row w' w.heap.size (0 + i) _ _ _ hw.out, Nat.zero_add]
    simp only [splice, List.take_zero, List.nil_append, List.getElem?_toArray]
    rw [List.getElem?_append_left (by rw [cellsOf_len]; exact hi), cellsOf_get hi]
  refine ⟨_, _, _, w.heap.size, rfl, Lib.hid hL.symm, ⟨by rw [cellsOf_len, hL, Nat.mul_one], .inr ⟨w.heap.size, n + m, _, rfl, Nat.le_refl _, hw.out, by omega, by unfold maxLen; omega, ?_, ?_⟩⟩, hb, Nat.le_refl _, .inr ⟨0, rfl, hle, hcell⟩, by omega, by unfold maxLen; omega, Nat.le_refl _, hle⟩
  · simp only [splice, List.take_zero, List.nil_append, List.size_toArray, List.length_append, List.length_drop, HM.out, cellsOf_len, hL]
    omega
  · simp only [splice, List.take_zero, List.nil_append]
    rw [List.take_append_of_le_length (by rw [cellsOf_len]; omega), List.take_of_length_le (by rw [cellsOf_len]; omega)]
theorem room_0 (A : Option Addr) (D n cap : Nat) (l : List Nat) (w : World) (hr : ReadsL w D A l) (hl : l.length = n) (hn : n ≤ 2000000) :
    Calls Try.prog 67 #[.slice A n cap, .int .i64 0] w (RetL l 0 w) := room_any A D n cap 0 l w hr hl hn (by omega)
end
/- readBool, readCount of package wire: what they return. -/
section
open Go.RowKit

section
variable (R D : Nat) (l : List Nat) (A : Option Addr) (n cap : Nat) (w : World)
set_option maxRecDepth 100000 in
theorem ruint1_short (e : Int) (hR : RdAt w R D l e A n cap) (h : n < 1) : Calls Try.prog 105 #[.pointer (some ⟨R, 0, none⟩), .int .i64 1] w fun e w' => e = .returned (.tuple #[.int .i64 0, .int .i64 1]) ∧ w = w' :=
  ruint_short R 1 A n cap w hR.c0 (by decide) (by decide) h
set_option maxRecDepth 100000 in
theorem ruint2_short (e : Int) (hR : RdAt w R D l e A n cap) (h : n < 2) : Calls Try.prog 105 #[.pointer (some ⟨R, 0, none⟩), .int .i64 2] w fun e w' => e = .returned (.tuple #[.int .i64 0, .int .i64 1]) ∧ w = w' :=
  ruint_short R 2 A n cap w hR.c0 (by decide) (by decide) h
set_option maxRecDepth 100000 in
theorem ruint1_ok (e : Int) (hR : RdAt w R D l e A n cap) (h : 1 ≤ n) (v : Nat) (hv : Hid (num (l.take 1) = v)) : Calls Try.prog 105 #[.pointer (some ⟨R, 0, none⟩), .int .i64 1] w fun e w' => e = .returned (.tuple #[.int .i64 v, .int .i64 0]) ∧
      w' = w.setCell ⟨R, 0, none⟩ (.slice (cutA A cap 1) (n - 1) (cap - 1)) := hv.out ▸ ruint_ok R D 1 l e A n cap w hR (by decide) (by decide) h
set_option maxRecDepth 100000 in
theorem ruint2_ok (e : Int) (hR : RdAt w R D l e A n cap) (h : 2 ≤ n) (v : Nat) (hv : Hid (num (l.take 2) = v)) : Calls Try.prog 105 #[.pointer (some ⟨R, 0, none⟩), .int .i64 2] w fun e w' => e = .returned (.tuple #[.int .i64 v, .int .i64 0]) ∧
      w' = w.setCell ⟨R, 0, none⟩ (.slice (cutA A cap 2) (n - 2) (cap - 2)) := hv.out ▸ ruint_ok R D 2 l e A n cap w hR (by decide) (by decide) h

set_option maxRecDepth 100000 in
theorem rbool_short (e : Int) (hR : RdAt w R D l e A n cap) (h : n < 1) : Calls Try.prog 107 #[.pointer (some ⟨R, 0, none⟩)] w fun e w' => e = .returned (.tuple #[.bool false, .int .i64 1]) ∧ w = w' := by
  have HR := Lib.hid hR
  clear hR
  go_enter Try.func107, Try.ntmps107
  go_wp2_with (go_at_call 105; refine (ruint1_short R D l A n cap _ e HR.out h).mono ?_; rintro e w' ⟨rfl, rfl⟩)
  go_ret2
  exact ⟨rfl, rfl⟩
set_option maxRecDepth 100000 in
theorem rbool_form (e : Int) (hR : RdAt w R D l e A n cap) (h : 1 ≤ n) (v : Nat) (hv : Hid (num (l.take 1) = v)) (hx : 1 < v) : Calls Try.prog 107 #[.pointer (some ⟨R, 0, none⟩)] w fun e w' => e = .returned (.tuple #[.bool false, .int .i64 2]) ∧ w' = w.setCell ⟨R, 0, none⟩ (.slice (cutA A cap 1) (n - 1) (cap - 1)) := by
  have HR := Lib.hid hR
  have hx' : 1 < (v : Int) := by omega
  clear hR
  go_enter Try.func107, Try.ntmps107
  go_wp2_with (go_at_call 105; refine (ruint1_ok R D l A n cap _ e HR.out h _ hv).mono ?_; rintro e w' ⟨rfl, rfl⟩)
  go_ret2
  exact ⟨rfl, rfl⟩
set_option maxRecDepth 100000 in
theorem rbool_0 (e : Int) (hR : RdAt w R D l e A n cap) (h : 1 ≤ n) (v : Nat) (hv : Hid (num (l.take 1) = v)) (hx : v = 0) : Calls Try.prog 107 #[.pointer (some ⟨R, 0, none⟩)] w fun e w' => e = .returned (.tuple #[.bool false, .int .i64 0]) ∧ w' = w.setCell ⟨R, 0, none⟩ (.slice (cutA A cap 1) (n - 1) (cap - 1)) := by
  have HR := Lib.hid hR
  subst hx
  clear hR
  go_enter Try.func107, Try.ntmps107
  go_wp2_with (go_at_call 105; refine (ruint1_ok R D l A n cap _ e HR.out h _ hv).mono ?_; rintro e w' ⟨rfl, rfl⟩)
  go_ret2
  exact ⟨rfl, rfl⟩
set_option maxRecDepth 100000 in
theorem rbool_1 (e : Int) (hR : RdAt w R D l e A n cap) (h : 1 ≤ n) (v : Nat) (hv : Hid (num (l.take 1) = v)) (hx : v = 1) : Calls Try.prog 107 #[.pointer (some ⟨R, 0, none⟩)] w fun e w' => e = .returned (.tuple #[.bool true, .int .i64 0]) ∧ w' = w.setCell ⟨R, 0, none⟩ (.slice (cutA A cap 1) (n - 1) (cap - 1)) := by
  have HR := Lib.hid hR
  subst hx
  clear hR
  go_enter Try.func107, Try.ntmps107
  go_wp2_with (go_at_call 105; refine (ruint1_ok R D l A n cap _ e HR.out h _ hv).mono ?_; rintro e w' ⟨rfl, rfl⟩)
  go_ret2
  exact ⟨rfl, rfl⟩
set_option maxRecDepth 100000 in
theorem rcount_short (e : Int) (hR : RdAt w R D l e A n cap) (most : Int) (h : n < 2) : Calls Try.prog 112 #[.pointer (some ⟨R, 0, none⟩), .int .i64 most] w fun e w' => e = .returned (.tuple #[.int .i64 0, .int .i64 1]) ∧ w = w' := by
  have HR := Lib.hid hR
  clear hR
  go_enter Try.func112, Try.ntmps112
  go_wp2_with (go_at_call 105; refine (ruint2_short R D l A n cap _ e HR.out h).mono ?_; rintro e w' ⟨rfl, rfl⟩)
  go_ret2
  exact ⟨rfl, rfl⟩
set_option maxRecDepth 100000 in
theorem rcount_limit (e : Int) (hR : RdAt w R D l e A n cap) (h : 2 ≤ n) (v : Nat) (hv : Hid (num (l.take 2) = v)) (most : Int) (hx : most < v) : Calls Try.prog 112 #[.pointer (some ⟨R, 0, none⟩), .int .i64 most] w fun e w' => e = .returned (.tuple #[.int .i64 0, .int .i64 3]) ∧ w' = w.setCell ⟨R, 0, none⟩ (.slice (cutA A cap 2) (n - 2) (cap - 2)) := by
  have HR := Lib.hid hR
  clear hR
  go_enter Try.func112, Try.ntmps112
  go_wp2_with (go_at_call 105; refine (ruint2_ok R D l A n cap _ e HR.out h _ hv).mono ?_; rintro e w' ⟨rfl, rfl⟩)
  go_ret2
  exact ⟨rfl, rfl⟩
set_option maxRecDepth 100000 in
theorem rcount_ok (e : Int) (hR : RdAt w R D l e A n cap) (h : 2 ≤ n) (v : Nat) (hv : Hid (num (l.take 2) = v)) (most : Int) (hx : (v : Int) ≤ most) : Calls Try.prog 112 #[.pointer (some ⟨R, 0, none⟩), .int .i64 most] w fun e w' => e = .returned (.tuple #[.int .i64 v, .int .i64 0]) ∧ w' = w.setCell ⟨R, 0, none⟩ (.slice (cutA A cap 2) (n - 2) (cap - 2)) := by
  have HR := Lib.hid hR
  have hx' : decide (most < (v : Int)) = false := by simp; omega
  clear hR
  go_enter Try.func112, Try.ntmps112
  go_wp2_with (go_at_call 105; refine (ruint2_ok R D l A n cap _ e HR.out h _ hv).mono ?_; rintro e w' ⟨rfl, rfl⟩)
  go_ret2
  exact ⟨rfl, rfl⟩
end
end
/- readBytes of package wire: what it returns. -/
section
open Go.RowKit

/-- Something was read and an error found: only the reader and what is new have changed. -/
def Bad (R D : Nat) (c : Int) (w : World) (en : Ending) (w' : World) : Prop := ∃ x, en = .returned (.tuple #[x, .int .i64 c]) ∧ w.grownBy w' (some R) ∧ ∃ l' A' n' cap', RdAt w' R D l' 0 A' n' cap'
/-- The same of a byte string: none is returned. -/
def BadB (R D : Nat) (c : Int) (w : World) (en : Ending) (w' : World) : Prop := ∃ A cap, en = .returned (.tuple #[.slice A 0 cap, .int .i64 c]) ∧ w.grownBy w' (some R) ∧ ∃ l' A' n' cap', RdAt w' R D l' 0 A' n' cap'
/-- An element was read, and l' is left. -/
def Good (R D : Nat) (val : Value) (l' : List Nat) (w : World) (en : Ending) (w' : World) : Prop := en = .returned (.tuple #[val, .int .i64 0]) ∧ w.grownBy w' (some R) ∧ ∃ A' n' cap', RdAt w' R D l' 0 A' n' cap'
/-- The slice holds the bytes l, in a block of its own. -/
def NewL (w : World) (l : List Nat) (v : Value) (w' : World) : Prop := ∃ A n cap g, v = .slice A n cap ∧ Hid (n = l.length) ∧ w.heap.size ≤ g ∧ ReadsL w' g A l ∧ n ≤ cap ∧ cap ≤ maxLen
/-- A byte string was read, and l' is left. -/
def GoodB (R D : Nat) (x : List Nat) (l' : List Nat) (w : World) (en : Ending) (w' : World) : Prop := ∃ val, NewL w x val w' ∧ Good R D val l' w en w'
section
variable (R D : Nat) (l : List Nat) (A : Option Addr) (n cap : Nat) (w : World)
set_option maxRecDepth 100000 in
theorem Good.of_skip {w : World} {R D : Nat} {l : List Nat} {A : Option Addr} {n cap : Nat} (hR : RdAt w R D l 0 A n cap) (k : Nat) (hk : k ≤ n) (val : Value) :
    Good R D val (l.drop k) w (.returned (.tuple #[val, .int .i64 0])) (w.setCell ⟨R, 0, none⟩ (.slice (cutA A cap k) (n - k) (cap - k))) :=
  ⟨rfl, grown_set w R 0 _, _, _, _, hR.skip k hk⟩
set_option maxRecDepth 100000 in
theorem Bad.of_skip {w : World} {R D : Nat} {l : List Nat} {A : Option Addr} {n cap : Nat} (hR : RdAt w R D l 0 A n cap) (k : Nat) (hk : k ≤ n) (val : Value) (c : Int) :
    Bad R D c w (.returned (.tuple #[val, .int .i64 c])) (w.setCell ⟨R, 0, none⟩ (.slice (cutA A cap k) (n - k) (cap - k))) :=
  ⟨_, rfl, grown_set w R 0 _, _, _, _, _, hR.skip k hk⟩
set_option maxRecDepth 100000 in
theorem Bad.of_same {w : World} {R D : Nat} {l : List Nat} {A : Option Addr} {n cap : Nat} (hR : RdAt w R D l 0 A n cap) (val : Value) (c : Int) :
    Bad R D c w (.returned (.tuple #[val, .int .i64 c])) w :=
  ⟨_, rfl, World.grownBy.refl _ _, _, _, _, _, hR⟩
set_option maxRecDepth 100000 in
theorem BadB.of_skip {w : World} {R D : Nat} {l : List Nat} {A : Option Addr} {n cap : Nat} (hR : RdAt w R D l 0 A n cap) (k : Nat) (hk : k ≤ n) (A2 : Option Addr) (cap2 : Nat) (c : Int) :
    BadB R D c w (.returned (.tuple #[.slice A2 0 cap2, .int .i64 c])) (w.setCell ⟨R, 0, none⟩ (.slice (cutA A cap k) (n - k) (cap - k))) :=
  ⟨_, _, rfl, grown_set w R 0 _, _, _, _, _, hR.skip k hk⟩
set_option maxRecDepth 100000 in
theorem BadB.of_same {w : World} {R D : Nat} {l : List Nat} {A : Option Addr} {n cap : Nat} (hR : RdAt w R D l 0 A n cap) (A2 : Option Addr) (cap2 : Nat) (c : Int) :
    BadB R D c w (.returned (.tuple #[.slice A2 0 cap2, .int .i64 c])) w :=
  ⟨_, _, rfl, World.grownBy.refl _ _, _, _, _, _, hR⟩

set_option maxRecDepth 100000 in
theorem rbytes_short (hR : RdAt w R D l 0 A n cap) (most : Int) (h : n < 2) : Calls Try.prog 127 #[.pointer (some ⟨R, 0, none⟩), .int .i64 most] w (BadB R D 1 w) := by
  have HR := Lib.hid hR
  clear hR
  go_enter Try.func127, Try.ntmps127
  go_wp2_with (go_at_call 112; refine (rcount_short R D l A n cap _ 0 HR.out most h).mono ?_; rintro e w' ⟨rfl, rfl⟩)
  go_ret2
  exact .of_same HR.out _ _ _
set_option maxRecDepth 100000 in
theorem rbytes_limit (hR : RdAt w R D l 0 A n cap) (most : Int) (h : 2 ≤ n) (v : Nat) (hv : Hid (num (l.take 2) = v)) (hx : most < v) : Calls Try.prog 127 #[.pointer (some ⟨R, 0, none⟩), .int .i64 most] w (BadB R D 3 w) := by
  have HR := Lib.hid hR
  clear hR
  go_enter Try.func127, Try.ntmps127
  go_wp2_with (go_at_call 112; refine (rcount_limit R D l A n cap _ 0 HR.out h v hv most hx).mono ?_; rintro e w' ⟨rfl, rfl⟩)
  go_ret2
  exact .of_skip HR.out 2 h _ _ _
set_option maxRecDepth 100000 in
theorem rbytes_short2 (hR : RdAt w R D l 0 A n cap) (most : Int) (h : 2 ≤ n) (v : Nat) (hv : Hid (num (l.take 2) = v)) (hx : (v : Int) ≤ most) (h2 : n - 2 < v) : Calls Try.prog 127 #[.pointer (some ⟨R, 0, none⟩), .int .i64 most] w (BadB R D 1 w) := by
  have HR := Lib.hid hR
  have HS := Lib.hid (hR.skip 2 h)
  clear hR
  go_enter Try.func127, Try.ntmps127
  go_wp2_with (first
    | (go_at_call 112; refine (rcount_ok R D l A n cap _ 0 HR.out h v hv most hx).mono ?_; rintro e w' ⟨rfl, rfl⟩)
    | (go_at_call 123; refine (take_short R v _ _ _ _ HS.out.c0 h2).mono ?_; rintro e w' ⟨rfl, rfl⟩)
    | (go_at_call 67; refine (room_0 none 0 0 0 [] _ (.inl rfl) rfl (by decide)).mono ?_; rintro e w1 ⟨A1, n1, cap1, g1, rfl, hn1, ho1, hb1, hg1, hr1, hc1, hm1, hq1⟩))
  go_ret2
  have hg := (grown_set w R 0 (.slice (cutA A cap 2) (n - 2) (cap - 2))).trans (grown_of_below hb1 (some R))
  obtain rfl : n1 = 0 := hn1.out
  exact ⟨_, _, rfl, hg, _, _, _, _, HS.out.kept (grown_of_below hb1 none) (by simp) (by simp)⟩
set_option maxRecDepth 100000 in
theorem rbytes_ok (hR : RdAt w R D l 0 A n cap) (most : Int) (h : 2 ≤ n) (v : Nat) (hv : Hid (num (l.take 2) = v)) (hx : (v : Int) ≤ most) (h2 : v ≤ n - 2) : Calls Try.prog 127 #[.pointer (some ⟨R, 0, none⟩), .int .i64 most] w (GoodB R D ((l.drop 2).take v) (l.drop (2 + v)) w) := by
  have HR := Lib.hid hR
  have HS := Lib.hid (hR.skip 2 h)
  have HS2 := Lib.hid (HS.out.skip v h2)
  have HL : Hid (((l.drop 2).take v).length = v) := Lib.hid (by rw [List.length_take, List.length_drop, hR.len]; omega)
  have HQ := Lib.hid ((HS.out.reads.take v).kept (grown_set _ R 0 (.slice (cutA (cutA A cap 2) (cap - 2) v) (n - 2 - v) (cap - 2 - v))) (by simp; exact fun e => hR.apart e.symm))
  have hv2 : v ≤ 1000000 := by have := hR.max; have := hR.le; omega
  clear hR
  go_enter Try.func127, Try.ntmps127
  go_wp2_with (first
    | (go_at_call 112; refine (rcount_ok R D l A n cap _ 0 HR.out h v hv most hx).mono ?_; rintro e w' ⟨rfl, rfl⟩)
    | (go_at_call 123; refine (take_ok R v _ _ _ _ HS.out.c0 HS.out.f0 h2 HS.out.le).mono ?_; rintro e w' ⟨rfl, rfl⟩)
    | (go_at_call 67; refine (room_0 _ D v _ ((l.drop 2).take v) _ HQ.out HL.out (by omega)).mono ?_; rintro e w1 ⟨A1, n1, cap1, g1, rfl, hn1, ho1, hb1, hg1, hr1, hc1, hm1, hq1⟩))
  go_ret2
  have hg := ((grown_set w R 0 (.slice (cutA A cap 2) (n - 2) (cap - 2))).trans (grown_set _ R 0 _)).trans (grown_of_below hb1 (some R))
  have hE : (l.drop 2).drop v = l.drop (2 + v) := by rw [List.drop_drop]
  refine ⟨_, ⟨_, _, _, g1, rfl, hn1, ?_, hr1, hc1, hm1⟩, rfl, hg, _, _, _, hE ▸ HS2.out.kept (grown_of_below hb1 none) (by simp) (by simp)⟩
  simpa [World.setCell] using hg1
end
end
/- readText of package wire: what it returns. -/
section
open Go.RowKit

/-- The string of the bytes l. -/
def strL (l : List Nat) : ByteArray := strN (l.map fun (x : Nat) => (x : Int))
set_option maxRecDepth 100000 in
theorem conv_list {w : World} {D : Nat} {A : Option Addr} {l : List Nat} {n : Nat} (cap : Nat) (h : ReadsL w D A l) (hl : l.length = n) :
    (convert 32 9 (.slice A n cap)).run Try.prog w = .ok (.string (strL l)) w := by
  rw [run_convert_bytes_string w 32 9 5 _ _ _ Try.underlying32 Try.underlying5 Try.underlying9]
  rcases h with rfl | ⟨o, rfl, hd, hc⟩
  · obtain rfl : n = 0 := by rw [← hl]; rfl
    cases A with
    | none => rfl
    | some a => exact run_bytesToString w a 0 cap [] (by simpa using run_loadCells_list (P := Try.prog) w a [] (by simp))
  · refine run_bytesToString w ⟨D, o, none⟩ n cap (l.map fun (x : Nat) => (x : Int)) ?_
    have e := run_loadCells_list (P := Try.prog) w ⟨D, o, none⟩ (cellsOf l) (fun j v hv => by
      have hj : j < l.length := by have := (List.getElem?_eq_some_iff.1 hv).1; rwa [cellsOf_len] at this
      rw [cellsOf_get hj] at hv
      rw [Addr.add_mid, hc j hj, hv])
    rw [cellsOf_len, hl] at e
    simpa [cellsOf, Function.comp_def] using e
/-- A text consists of bytes from 32 to 126. -/
def plain (l : List Nat) : Bool := l.all fun x => decide (32 ≤ x) && decide (x ≤ 126)
set_option maxRecDepth 100000 in
/-- The index of the first byte that is none of a text. -/
theorem not_plain {l : List Nat} (h : plain l = false) : ∃ k, k < l.length ∧ (∀ i, i < k → 32 ≤ l.getD i 0 ∧ l.getD i 0 ≤ 126) ∧ (l.getD k 0 < 32 ∨ 126 < l.getD k 0) := by
  induction l with
  | nil => simp [plain] at h
  | cons x t ih =>
    by_cases hx : 32 ≤ x ∧ x ≤ 126
    · have ht : plain t = false := by
        simp only [plain, List.all_cons, hx.1, hx.2, decide_true, Bool.and_self, Bool.true_and] at h
        exact h
      obtain ⟨k, h1, h2, h3⟩ := ih ht
      refine ⟨k + 1, by simp; omega, fun i hi => ?_, by simpa using h3⟩
      cases i with
      | zero => simpa using hx
      | succ i => simpa using h2 i (by omega)
    · exact ⟨0, by simp, fun i hi => absurd hi (by omega), by simp; omega⟩
set_option maxRecDepth 100000 in
theorem plain_at {l : List Nat} (h : plain l = true) (k : Nat) (hk : k < l.length) : 32 ≤ l.getD k 0 ∧ l.getD k 0 ≤ 126 := by
  have := List.all_eq_true.1 h (l.getD k 0) (by rw [List.getD_eq_getElem?_getD, List.getElem?_eq_getElem hk]; exact List.getElem_mem hk)
  simpa using this

section
variable (R D : Nat) (l : List Nat) (A : Option Addr) (n cap : Nat) (w : World)
set_option maxRecDepth 100000 in
theorem rtext_bad (most c : Int) (hB : Calls Try.prog 127 #[.pointer (some ⟨R, 0, none⟩), .int .i64 most] w (BadB R D c w)) : Calls Try.prog 111 #[.pointer (some ⟨R, 0, none⟩), .int .i64 most] w (Bad R D c w) := by
  have HB := Lib.hid hB
  clear hB
  have hcv : ∀ (A : Option Addr) (cap : Nat) (w : World), (convert 32 9 (.slice A 0 cap)).run Try.prog w = .ok (.string (strL [])) w := fun A cap w => conv_list (D := 0) cap (.inl rfl) rfl
  go_enter Try.func111, Try.ntmps111
  go_wp2_with (go_at_call 127; refine HB.out.mono ?_; rintro e w1 ⟨A1, cap1, rfl, hg1, l1, A2, n2, cap2, hR1⟩)
  have HR1 := Lib.hid hR1
  clear hR1
  go_loop [9, 18] (fun _ i => i = .int .i64 0) (fun _ _ => 0)
  case atStart => rfl
  case round =>
    subst hrel
    go_wp2
    go_ret2
    exact ⟨_, rfl, hg1, _, _, _, _, HR1.out⟩
set_option maxRecDepth 100000 in
theorem rtext_form (most : Int) (x l' : List Nat) (hx : plain x = false) (hB : Calls Try.prog 127 #[.pointer (some ⟨R, 0, none⟩), .int .i64 most] w (GoodB R D x l' w)) : Calls Try.prog 111 #[.pointer (some ⟨R, 0, none⟩), .int .i64 most] w (Bad R D 2 w) := by
  have HB := Lib.hid hB
  clear hB
  obtain ⟨k, hk1, hk2, hk3⟩ := not_plain hx
  have HK := Lib.hid hk2
  clear hk2 hx
  go_enter Try.func111, Try.ntmps111
  go_wp2_with (go_at_call 127; refine HB.out.mono ?_; rintro e w1 ⟨_, ⟨A1, n1, cap1, g1, rfl, hn1, hlg, hr1, hc1, hm1⟩, rfl, hg1, A2, n2, cap2, hR1⟩)
  have HR1 := Lib.hid hR1
  obtain ⟨o, rfl, hd, hc⟩ := hr1.resolve_left (fun e => by rw [e] at hk1; simp at hk1)
  have HC := Lib.hid hc
  have hn2 : k < n1 := by have := hn1.out; omega
  have hm2 : n1 ≤ 9223372036854775807 := by have := hm1; unfold maxLen at this; omega
  clear hR1 hc hr1 hm1
  go_loop [9, 18] (fun _ i => ∃ j : Nat, j ≤ k ∧ i = .int .i64 j) (fun _ i => k - (intOf i).toNat)
  case atStart => exact ⟨0, by omega, rfl⟩
  case round =>
    obtain ⟨j, hj, rfl⟩ := hrel
    have hlt : (j : Int) < (n1 : Int) := by omega
    have i0 := HC.out j (by have := hn1.out; omega)
    by_cases hjk : j = k
    · subst hjk
      generalize x.getD j 0 = y at *
      rcases hk3 with hy | hy
      · have hy' : (y : Int) < 32 := by omega
        clear hy
        go_wp2
        go_ret2
        exact ⟨_, rfl, hg1, _, _, _, _, HR1.out⟩
      · have hy' : 126 < (y : Int) := by omega
        have hy2 : decide ((y : Int) < 32) = false := by simp; omega
        clear hy
        go_wp2
        go_ret2
        exact ⟨_, rfl, hg1, _, _, _, _, HR1.out⟩
    · obtain ⟨h32, h126⟩ := HK.out j (by omega)
      have H3 := Lib.hid hk3
      clear hk3
      generalize x.getD j 0 = y at *
      have hy1 : decide ((y : Int) < 32) = false := by simp; omega
      have hy2 : decide (126 < (y : Int)) = false := by simp; omega
      clear h32 h126
      go_wp2
      go_round
      case rel => exact ⟨j + 1, by omega, by simp⟩
      case measure => simp [intOf]; omega
set_option maxRecDepth 100000 in
theorem rtext_ok (most : Int) (x l' : List Nat) (hx : plain x = true) (hB : Calls Try.prog 127 #[.pointer (some ⟨R, 0, none⟩), .int .i64 most] w (GoodB R D x l' w)) : Calls Try.prog 111 #[.pointer (some ⟨R, 0, none⟩), .int .i64 most] w (Good R D (.string (strL x)) l' w) := by
  have HB := Lib.hid hB
  have HX := Lib.hid hx
  clear hB hx
  go_enter Try.func111, Try.ntmps111
  go_wp2_with (go_at_call 127; refine HB.out.mono ?_; rintro e w1 ⟨_, ⟨A1, n1, cap1, g1, rfl, hn1, hlg, hr1, hc1, hm1⟩, rfl, hg1, A2, n2, cap2, hR1⟩)
  have HR1 := Lib.hid hR1
  have hm2 : n1 ≤ 9223372036854775807 := by have := hm1; unfold maxLen at this; omega
  have hcv : (convert 32 9 (.slice A1 n1 cap1)).run Try.prog w1 = .ok (.string (strL x)) w1 := conv_list cap1 hr1 hn1.out.symm
  have Hr1 := Lib.hid hr1
  clear hR1 hr1 hm1
  go_loop [9, 18] (fun _ i => ∃ j : Nat, j ≤ n1 ∧ i = .int .i64 j) (fun _ i => n1 - (intOf i).toNat)
  case atStart => exact ⟨0, by omega, rfl⟩
  case round =>
    obtain ⟨j, hj, rfl⟩ := hrel
    by_cases hlt : j < n1
    · obtain ⟨o, rfl, hd, hc⟩ := Hr1.out.resolve_left (fun e => by have := hn1.out; rw [e] at this; simp at this; omega)
      have i0 := hc j (by have := hn1.out; omega)
      obtain ⟨h32, h126⟩ := plain_at HX.out j (by have := hn1.out; omega)
      have hlt' : (j : Int) < (n1 : Int) := by omega
      clear hc
      generalize x.getD j 0 = y at *
      have hy1 : decide ((y : Int) < 32) = false := by simp; omega
      have hy2 : decide (126 < (y : Int)) = false := by simp; omega
      clear h32 h126
      go_wp2
      go_round
      case rel => exact ⟨j + 1, by omega, by simp⟩
      case measure => simp [intOf]; omega
    · obtain rfl : j = n1 := by omega
      go_wp2
      go_ret2
      exact ⟨rfl, hg1, _, _, _, HR1.out⟩
end
end
/- readValue of package wire: what it returns. -/
section
open Go.RowKit

def valOf (a : Nat) : Value := .agg #[.int .u64 (hi a), .int .u64 (lo a)]
/-- What Parse says of the bytes l. -/
def pE (l : List Nat) : Int := parseE l.length fun i => l.getD i 0
def pV (l : List Nat) : Nat := parseV l.length fun i => l.getD i 0
set_option maxRecDepth 100000 in
theorem parse_list {A : Option Addr} {D n cap : Nat} {l : List Nat} {w : World} (hr : ReadsL w D A l) (hs : Small l) (hl : l.length = n) (hn : n ≤ 100) {v : Nat} {c : Int} (hv : Hid (pV l = v)) (hc : Hid (pE l = c)) :
    Calls Try.prog 124 #[.slice A n cap] w (RetVE v c w) := by
  subst hl
  rw [← hv.out, ← hc.out]
  exact parse_any A l.length cap _ w (hr.readsB hs) hn

/-- An error was found by readValue. -/
def BadV (R D : Nat) (c : Int) (w : World) (en : Ending) (w' : World) : Prop := en = .returned (.tuple #[.agg #[.int .u64 0, .int .u64 0], .int .i64 c]) ∧ w.grownBy w' (some R) ∧ ∃ l' A' n' cap', RdAt w' R D l' 0 A' n' cap'
section
variable (R D : Nat) (l : List Nat) (A : Option Addr) (n cap : Nat) (w : World)
set_option maxRecDepth 100000 in
theorem rvalue_short (hR : RdAt w R D l 0 A n cap) (h : n < 1) : Calls Try.prog 109 #[.pointer (some ⟨R, 0, none⟩)] w (BadV R D 1 w) := by
  have HA := Lib.hid (hR.kept (grown_alloc w (.cells #[.int .u64 0, .int .u64 0] 80) none) (by simp) (by simp))
  have r1 : w.heap.size ≠ R := by have := hR.lt; omega
  have r2 : w.heap.size ≠ D := by have := hR.dlt; omega
  clear hR
  go_enter Try.func109, Try.ntmps109
  go_wp2_with (go_at_call 105; refine (ruint1_short R D l A n cap _ 0 HA.out h).mono ?_; rintro e w' ⟨rfl, rfl⟩)
  refine bodyPost_ret (v := .tuple #[.agg #[.int .u64 0, .int .u64 0], .int .i64 1]) (by simp [results, Try.results109, go_sem]) rfl ?_
  exact ⟨rfl, grown_alloc _ _ _, _, _, _, _, HA.out⟩
set_option maxRecDepth 100000 in
theorem rvalue_form0 (hR : RdAt w R D l 0 A n cap) (h : 1 ≤ n) (v : Nat) (hv : Hid (num (l.take 1) = v)) (hx : v < 1) : Calls Try.prog 109 #[.pointer (some ⟨R, 0, none⟩)] w (BadV R D 2 w) := by
  have HA := Lib.hid (hR.kept (grown_alloc w (.cells #[.int .u64 0, .int .u64 0] 80) none) (by simp) (by simp))
  have r1 : w.heap.size ≠ R := by have := hR.lt; omega
  have r2 : w.heap.size ≠ D := by have := hR.dlt; omega
  have HS := Lib.hid (HA.out.skip 1 h)
  have hx' : (v : Int) < 1 := by omega
  clear hR
  go_enter Try.func109, Try.ntmps109
  go_wp2_with (go_at_call 105; refine (ruint1_ok R D l A n cap _ 0 HA.out h _ hv).mono ?_; rintro e w' ⟨rfl, rfl⟩)
  refine bodyPost_ret (v := .tuple #[.agg #[.int .u64 0, .int .u64 0], .int .i64 2]) (by simp [results, Try.results109, go_sem]) rfl ?_
  exact ⟨rfl, grown_new (grown_new ((grown_alloc _ _ _).trans (grown_set _ R 0 _)) (Nat.le_refl _) _) (Nat.le_refl _) _, _, _, _, _, (HS.out.far r1 r2 _).far r1 r2 _⟩
set_option maxRecDepth 100000 in
theorem rvalue_form16 (hR : RdAt w R D l 0 A n cap) (h : 1 ≤ n) (v : Nat) (hv : Hid (num (l.take 1) = v)) (hx : 16 < v) : Calls Try.prog 109 #[.pointer (some ⟨R, 0, none⟩)] w (BadV R D 2 w) := by
  have HA := Lib.hid (hR.kept (grown_alloc w (.cells #[.int .u64 0, .int .u64 0] 80) none) (by simp) (by simp))
  have r1 : w.heap.size ≠ R := by have := hR.lt; omega
  have r2 : w.heap.size ≠ D := by have := hR.dlt; omega
  have HS := Lib.hid (HA.out.skip 1 h)
  have hx' : 16 < (v : Int) := by omega
  have hx2 : decide ((v : Int) < 1) = false := by simp; omega
  clear hR
  go_enter Try.func109, Try.ntmps109
  go_wp2_with (go_at_call 105; refine (ruint1_ok R D l A n cap _ 0 HA.out h _ hv).mono ?_; rintro e w' ⟨rfl, rfl⟩)
  refine bodyPost_ret (v := .tuple #[.agg #[.int .u64 0, .int .u64 0], .int .i64 2]) (by simp [results, Try.results109, go_sem]) rfl ?_
  exact ⟨rfl, grown_new (grown_new ((grown_alloc _ _ _).trans (grown_set _ R 0 _)) (Nat.le_refl _) _) (Nat.le_refl _) _, _, _, _, _, (HS.out.far r1 r2 _).far r1 r2 _⟩
set_option maxRecDepth 100000 in
theorem rvalue_short2 (hR : RdAt w R D l 0 A n cap) (h : 1 ≤ n) (v : Nat) (hv : Hid (num (l.take 1) = v)) (hx : 1 ≤ v) (hx16 : v ≤ 16) (h2 : n - 1 < v) : Calls Try.prog 109 #[.pointer (some ⟨R, 0, none⟩)] w (BadV R D 1 w) := by
  have HA := Lib.hid (hR.kept (grown_alloc w (.cells #[.int .u64 0, .int .u64 0] 80) none) (by simp) (by simp))
  have r1 : w.heap.size ≠ R := by have := hR.lt; omega
  have r2 : w.heap.size ≠ D := by have := hR.dlt; omega
  have HS := Lib.hid (HA.out.skip 1 h)
  have hx1 : decide ((v : Int) < 1) = false := by simp; omega
  have hx2 : decide (16 < (v : Int)) = false := by simp; omega
  clear hR
  go_enter Try.func109, Try.ntmps109
  go_wp2_with (first | (go_at_call 105; refine (ruint1_ok R D l A n cap _ 0 HA.out h _ hv).mono ?_; rintro e w' ⟨rfl, rfl⟩) | (go_at_call 123; refine (take_short R v _ _ _ _ HS.out.c0 h2).mono ?_; rintro e w' ⟨rfl, rfl⟩))
  refine bodyPost_ret (v := .tuple #[.agg #[.int .u64 0, .int .u64 0], .int .i64 1]) (by simp [results, Try.results109, go_sem]) rfl ?_
  exact ⟨rfl, grown_new (grown_new ((grown_alloc _ _ _).trans (grown_set _ R 0 _)) (Nat.le_refl _) _) (Nat.le_refl _) _, _, _, _, _, (HS.out.far r1 r2 _).far r1 r2 _⟩
set_option maxRecDepth 100000 in
theorem rvalue_value (hR : RdAt w R D l 0 A n cap) (h : 1 ≤ n) (v : Nat) (hv : Hid (num (l.take 1) = v)) (hx : 1 ≤ v) (hx16 : v ≤ 16) (h2 : v ≤ n - 1) (c : Int) (hp : Hid (pE ((l.drop 1).take v) = c)) (hc : (c == 0) = false) : Calls Try.prog 109 #[.pointer (some ⟨R, 0, none⟩)] w (BadV R D 5 w) := by
  have HA := Lib.hid (hR.kept (grown_alloc w (.cells #[.int .u64 0, .int .u64 0] 80) none) (by simp) (by simp))
  have r1 : w.heap.size ≠ R := by have := hR.lt; omega
  have r2 : w.heap.size ≠ D := by have := hR.dlt; omega
  have HS := Lib.hid (HA.out.skip 1 h)
  have HS2 := Lib.hid (HS.out.skip v h2)
  have HL : Hid (((l.drop 1).take v).length = v) := Lib.hid (by rw [List.length_take, List.length_drop, hR.len]; omega)
  have HQ := Lib.hid ((HS.out.reads.take v).kept (grown_set _ R 0 (.slice (cutA (cutA A cap 1) (cap - 1) v) (n - 1 - v) (cap - 1 - v))) (by simp; exact fun e => hR.apart e.symm))
  have HM := Lib.hid ((hR.small.drop 1).take v)
  have hx1 : decide ((v : Int) < 1) = false := by simp; omega
  have hx2 : decide (16 < (v : Int)) = false := by simp; omega
  obtain ⟨u, HV⟩ : ∃ u, Hid (pV ((l.drop 1).take v) = u) := ⟨_, Lib.hid rfl⟩
  clear hR
  go_enter Try.func109, Try.ntmps109
  go_wp2_with (first | (go_at_call 105; refine (ruint1_ok R D l A n cap _ 0 HA.out h _ hv).mono ?_; rintro e w' ⟨rfl, rfl⟩) | (go_at_call 123; refine (take_ok R v _ _ _ _ HS.out.c0 HS.out.f0 h2 HS.out.le).mono ?_; rintro e w' ⟨rfl, rfl⟩) | (go_at_call 124; refine (parse_list HQ.out HM.out HL.out (by omega) HV hp).mono ?_; rintro e w1 ⟨rfl, hb1⟩; obtain ⟨hc1, hf1, hz1⟩ := after (w.heap.size + 1) hb1 (by simp [World.setCell]) (by simp [World.setCell])))
  have l1 : w.heap.size < w1.heap.size := hz1 _ (by omega)
  have k0 : w1.cell? ⟨w.heap.size, 0, none⟩ = some (.int .u64 0) := by
    rw [hc1 _ _ (by omega), World.cell?_setCell_far _ _ _ _ (by simpa using Ne.symm r1), World.cell?_setCell_far _ _ _ _ (by simpa using Ne.symm r1), World.cell?_alloc_new]; rfl
  have k1 : w1.cell? ⟨w.heap.size, 1, none⟩ = some (.int .u64 0) := by
    rw [hc1 _ _ (by omega), World.cell?_setCell_far _ _ _ _ (by simpa using Ne.symm r1), World.cell?_setCell_far _ _ _ _ (by simpa using Ne.symm r1), World.cell?_alloc_new]; rfl
  refine bodyPost_ret (v := .tuple #[.agg #[.int .u64 0, .int .u64 0], .int .i64 5]) (by simp [results, Try.results109, go_sem, l1, k0, k1]) rfl ?_
  have hg := (((grown_alloc w (.cells #[.int .u64 0, .int .u64 0] 80) (some R)).trans (grown_set _ R 0 _)).trans (grown_set _ R 0 _)).trans (grown_of_below hb1 (some R))
  have hk := HS2.out.kept (grown_of_below hb1 none) (by simp) (by simp)
  exact ⟨rfl, grown_alloc' (grown_new (grown_new hg (Nat.le_refl _) _) (Nat.le_refl _) _) _, _, _, _, _, ((hk.far r1 r2 _).far r1 r2 _).kept (grown_alloc _ _ none) (by simp) (by simp)⟩
set_option maxRecDepth 100000 in
theorem rvalue_ok (hR : RdAt w R D l 0 A n cap) (h : 1 ≤ n) (v : Nat) (hv : Hid (num (l.take 1) = v)) (hx : 1 ≤ v) (hx16 : v ≤ 16) (h2 : v ≤ n - 1) (u : Nat) (hp : Hid (pE ((l.drop 1).take v) = 0)) (HV : Hid (pV ((l.drop 1).take v) = u)) : Calls Try.prog 109 #[.pointer (some ⟨R, 0, none⟩)] w (Good R D (valOf u) (l.drop (1 + v)) w) := by
  have HA := Lib.hid (hR.kept (grown_alloc w (.cells #[.int .u64 0, .int .u64 0] 80) none) (by simp) (by simp))
  have r1 : w.heap.size ≠ R := by have := hR.lt; omega
  have r2 : w.heap.size ≠ D := by have := hR.dlt; omega
  have HS := Lib.hid (HA.out.skip 1 h)
  have HS2 := Lib.hid (HS.out.skip v h2)
  have HL : Hid (((l.drop 1).take v).length = v) := Lib.hid (by rw [List.length_take, List.length_drop, hR.len]; omega)
  have HQ := Lib.hid ((HS.out.reads.take v).kept (grown_set _ R 0 (.slice (cutA (cutA A cap 1) (cap - 1) v) (n - 1 - v) (cap - 1 - v))) (by simp; exact fun e => hR.apart e.symm))
  have HM := Lib.hid ((hR.small.drop 1).take v)
  have hx1 : decide ((v : Int) < 1) = false := by simp; omega
  have hx2 : decide (16 < (v : Int)) = false := by simp; omega
  clear hR
  go_enter Try.func109, Try.ntmps109
  go_wp2_with (first | (go_at_call 105; refine (ruint1_ok R D l A n cap _ 0 HA.out h _ hv).mono ?_; rintro e w' ⟨rfl, rfl⟩) | (go_at_call 123; refine (take_ok R v _ _ _ _ HS.out.c0 HS.out.f0 h2 HS.out.le).mono ?_; rintro e w' ⟨rfl, rfl⟩) | (go_at_call 124; refine (parse_list HQ.out HM.out HL.out (by omega) HV hp).mono ?_; rintro e w1 ⟨rfl, hb1⟩; obtain ⟨hc1, hf1, hz1⟩ := after (w.heap.size + 1) hb1 (by simp [World.setCell]) (by simp [World.setCell])))
  have l1 : w.heap.size < w1.heap.size := hz1 _ (by omega)
  have k0 : w1.cell? ⟨w.heap.size, 0, none⟩ = some (.int .u64 0) := by
    rw [hc1 _ _ (by omega), World.cell?_setCell_far _ _ _ _ (by simpa using Ne.symm r1), World.cell?_setCell_far _ _ _ _ (by simpa using Ne.symm r1), World.cell?_alloc_new]; rfl
  have k1 : w1.cell? ⟨w.heap.size, 1, none⟩ = some (.int .u64 0) := by
    rw [hc1 _ _ (by omega), World.cell?_setCell_far _ _ _ _ (by simpa using Ne.symm r1), World.cell?_setCell_far _ _ _ _ (by simpa using Ne.symm r1), World.cell?_alloc_new]; rfl
  refine bodyPost_ret (v := .tuple #[.agg #[.int .u64 (hi u), .int .u64 (lo u)], .int .i64 0]) (by simp [results, Try.results109, go_sem, l1, k0, k1]) rfl ?_
  have hg := (((grown_alloc w (.cells #[.int .u64 0, .int .u64 0] 80) (some R)).trans (grown_set _ R 0 _)).trans (grown_set _ R 0 _)).trans (grown_of_below hb1 (some R))
  have hk := HS2.out.kept (grown_of_below hb1 none) (by simp) (by simp)
  have hE : (l.drop 1).drop v = l.drop (1 + v) := by rw [List.drop_drop]
  rw [hE] at hk
  exact ⟨rfl, grown_alloc' (grown_new (grown_new hg (Nat.le_refl _) _) (Nat.le_refl _) _) _, _, _, _, ((hk.far r1 r2 _).far r1 r2 _).kept (grown_alloc _ _ none) (by simp) (by simp)⟩
end
end
end Go.Proofs.Ytljmiickhkkceaa
