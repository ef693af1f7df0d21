/- Contracts, joined: Val, Val2, Val3, Val4, Row, Bytes. -/
import Derived.Test.YtodmkmoglchoeaaGreatDoorPure
import Derived.Laws.Externs
import Derived.Lib.Hide
import Derived.Deep.RegionHeld3
import Derived.Deep.QuietTactic
import Derived.BigQuiet
import Derived.StillTailTactics
import Derived.Lib.Walk
import Derived.Deep.Light
import Derived.Laws.IdiomCopy
import Derived.Deep.MidRow
import Derived.Deep.WholeRow
namespace Go.Proofs.YtodmkmoglchoeaaGreatDoor
/- The calls of package value: what each returns. -/
section
open Go.RowKit

set_option maxRecDepth 100000 in
set_option maxHeartbeats 400000 in
theorem or_any (a b : Nat) (w : World) :
    Calls Tryz.prog 188 #[.agg #[.int .u64 (hi a), .int .u64 (lo a)], .agg #[.int .u64 (hi b), .int .u64 (lo b)]] w (RetV (a ||| b) w) := by
  go_enter Tryz.func188, Tryz.ntmps188
  go_wp2
  refine bodyPost_ret (v := .agg #[.int .u64 (hi (a ||| b)), .int .u64 (lo (a ||| b))]) (by simp [results, Tryz.results188, go_sem, or_hi, or_lo]) rfl ⟨rfl, ?_⟩
  exact (((Below.refl _ _).alloc (by simp) _).alloc (by simp) _).alloc (by simp; omega) _

set_option maxRecDepth 100000 in
set_option maxHeartbeats 400000 in
theorem of_any (n : Nat) (hn : n < 18446744073709551616) (w : World) :
    Calls Tryz.prog 49 #[.int .u64 n] w (RetV n w) := by
  have e1 : hi n = 0 := by unfold hi; omega
  have e2 : lo n = n := by unfold lo; omega
  have H1 := Lib.hid e1
  have H2 := Lib.hid e2
  clear e1 e2 hn
  go_enter Tryz.func49, Tryz.ntmps49
  go_wp2
  refine bodyPost_ret (v := .agg #[.int .u64 (hi n), .int .u64 (lo n)]) (by simp [results, Tryz.results49, go_sem, H1.out, H2.out]) rfl ⟨rfl, ?_⟩
  exact (Below.refl _ _).alloc (by simp) _

set_option maxRecDepth 100000 in
set_option maxHeartbeats 400000 in
theorem clamp_any (n m : Int) (hm : 0 ≤ m) (w : World) :
    Calls Tryz.prog 72 #[.int .i64 n, .int .i64 m] w fun e w' => e = .returned (.int .i64 (min (max n 0) m)) ∧ w = w' := by
  have _ := hm
  first
  | (go_enter Tryz.func72, Tryz.ntmps72
     go_wp2
     go_ret
     exact ⟨rfl, rfl⟩)
  | (by_cases h1 : n < 0
     · have e : min (max n 0) m = 0 := by omega
       rw [e]; clear e
       go_enter Tryz.func72, Tryz.ntmps72
       go_wp2
       go_ret
       exact ⟨rfl, rfl⟩
     · by_cases h2 : n ≤ m
       · have e : min (max n 0) m = n := by omega
         rw [e]; clear e
         go_enter Tryz.func72, Tryz.ntmps72
         go_wp2
         go_ret
         exact ⟨rfl, rfl⟩
       · have e : min (max n 0) m = m := by omega
         rw [e]; clear e
         go_enter Tryz.func72, Tryz.ntmps72
         go_wp2
         go_ret
         exact ⟨rfl, rfl⟩)

end
/- The calls of package value that call others: what each returns. -/
section
open Go.RowKit

set_option maxRecDepth 100000 in
set_option maxHeartbeats 400000 in
theorem right_any (a : Nat) (n : Int) (ha : a < 2 ^ 128) (hn : n ≤ 9223372036854775807) (w : World) :
    Calls Tryz.prog 71 #[.agg #[.int .u64 (hi a), .int .u64 (lo a)], .int .i64 n] w (RetV (a / 2 ^ n.toNat) w) := by
  by_cases h1 : n ≤ 0
  · have e : n.toNat = 0 := by omega
    rw [e, Nat.pow_zero, Nat.div_one]
    clear e
    go_enter Tryz.func71, Tryz.ntmps71
    go_wp2
    refine bodyPost_ret (v := .agg #[.int .u64 (hi a), .int .u64 (lo a)]) (by simp [results, Tryz.results71, go_sem]) rfl ⟨rfl, ?_⟩
    exact ((Below.refl _ _).alloc (by simp) _).alloc (by simp) _
  · obtain ⟨k, rfl⟩ := Int.eq_ofNat_of_zero_le (show 0 ≤ n by omega)
    rw [Int.toNat_natCast]
    have k0 : 0 < (k : Int) := by omega
    by_cases h2 : (64 : Int) ≤ k
    · have H1 := Lib.hid (right_lo_big a k (by omega) ha)
      have H2 := Lib.hid (right_hi_big a k (by omega) ha)
      clear ha
      go_enter Tryz.func71, Tryz.ntmps71
      go_wp2
      refine bodyPost_ret (v := .agg #[.int .u64 (hi (a / 2 ^ k)), .int .u64 (lo (a / 2 ^ k))]) (by rw [← H1.out, ← H2.out]; simp [results, Tryz.results71, go_sem]) rfl ⟨rfl, ?_⟩
      exact ((Below.refl _ _).alloc (by simp) _).alloc (by simp) _
    · have h3 : (k : Int) < 64 := by omega
      have H1 := Lib.hid (right_lo_small a k (by omega) (by omega))
      have H2 := Lib.hid (right_hi_small a k (by omega) ha)
      clear ha h2
      go_enter Tryz.func71, Tryz.ntmps71
      go_wp2
      refine bodyPost_ret (v := .agg #[.int .u64 (hi (a / 2 ^ k)), .int .u64 (lo (a / 2 ^ k))]) (by rw [← H1.out, ← H2.out]; simp [results, Tryz.results71, go_sem, IntKind.wrap_u64]) rfl ⟨rfl, ?_⟩
      exact ((Below.refl _ _).alloc (by simp) _).alloc (by simp) _

set_option maxRecDepth 100000 in
set_option maxHeartbeats 400000 in
theorem left_any (a : Nat) (n : Int) (ha : a < 2 ^ 128) (hn : n ≤ 9223372036854775807) (w : World) :
    Calls Tryz.prog 189 #[.agg #[.int .u64 (hi a), .int .u64 (lo a)], .int .i64 n] w (RetV (vleft a n.toNat) w) := by
  by_cases h1 : n ≤ 0
  · have e : n.toNat = 0 := by omega
    rw [e, vleft, Nat.pow_zero, Nat.mul_one, Nat.mod_eq_of_lt ha]
    clear e
    go_enter Tryz.func189, Tryz.ntmps189
    go_wp2
    refine bodyPost_ret (v := .agg #[.int .u64 (hi a), .int .u64 (lo a)]) (by simp [results, Tryz.results189, go_sem]) rfl ⟨rfl, ?_⟩
    exact ((Below.refl _ _).alloc (by simp) _).alloc (by simp) _
  · obtain ⟨k, rfl⟩ := Int.eq_ofNat_of_zero_le (show 0 ≤ n by omega)
    rw [Int.toNat_natCast]
    have k0 : 0 < (k : Int) := by omega
    clear ha
    by_cases h2 : (64 : Int) ≤ k
    · have H1 := Lib.hid (left_hi_big a k (by omega))
      have H2 := Lib.hid (left_lo_big a k (by omega))
      go_enter Tryz.func189, Tryz.ntmps189
      go_wp2
      refine bodyPost_ret (v := .agg #[.int .u64 (hi (vleft a k)), .int .u64 (lo (vleft a k))]) (by rw [vleft, ← H1.out, ← H2.out]; simp [results, Tryz.results189, go_sem, IntKind.wrap_u64]) rfl ⟨rfl, ?_⟩
      exact ((Below.refl _ _).alloc (by simp) _).alloc (by simp) _
    · have h3 : (k : Int) < 64 := by omega
      have H1 := Lib.hid (left_hi_small a k (by omega) (by omega))
      have H2 := Lib.hid (left_lo_small a k)
      clear h2
      go_enter Tryz.func189, Tryz.ntmps189
      go_wp2
      refine bodyPost_ret (v := .agg #[.int .u64 (hi (vleft a k)), .int .u64 (lo (vleft a k))]) (by rw [vleft, ← H1.out, ← H2.out]; simp [results, Tryz.results189, go_sem, IntKind.wrap_u64]) rfl ⟨rfl, ?_⟩
      exact ((Below.refl _ _).alloc (by simp) _).alloc (by simp) _

end
/- Len, Fits, Bit and Compare of package value. -/
section
open Go.RowKit

def cmp (a b : Nat) : Int := if a = b then 0 else if a < b then -1 else 1
set_option maxRecDepth 100000 in
theorem run_field_lo (x y : Int) (w : World) : (Instr.field 103 (.agg #[.int .u64 x, .int .u64 y]) 1).run Tryz.prog w = .ok (.int .u64 y) w := by
  first | rfl | kernel_rfl
end
/- Ones, Leading, Not, Add and Sub of package value. -/
section
open Go.RowKit

set_option maxRecDepth 100000 in
theorem hi_max : hi (2 ^ 128 - 1) = 18446744073709551615 := by decide
set_option maxRecDepth 100000 in
theorem lo_max : lo (2 ^ 128 - 1) = 18446744073709551615 := by decide
set_option maxRecDepth 100000 in
theorem ones_eq (k : Int) : (2 ^ 128 - 1) / 2 ^ (128 - min (max k 0) 128).toNat = 2 ^ cl k - 1 := by
  have h : (128 - min (max k 0) 128).toNat = 128 - cl k := by unfold cl; omega
  have hc := cl_le k
  rw [h]
  generalize cl k = c at hc ⊢
  apply Nat.eq_of_testBit_eq; intro i
  rw [Nat.testBit_div_two_pow, Nat.testBit_two_pow_sub_one, Nat.testBit_two_pow_sub_one]
  simp; omega
/-- That many ones. -/
def ones (k : Int) : Nat := 2 ^ cl k - 1
set_option maxRecDepth 100000 in
theorem right_max (k : Int) (w : World) :
    Calls Tryz.prog 71 #[.agg #[.int .u64 18446744073709551615, .int .u64 18446744073709551615], .int .i64 (128 - min (max k 0) 128)] w (RetV (ones k) w) := by
  have h := right_any (2 ^ 128 - 1) (128 - min (max k 0) 128) (by decide) (by omega) w
  rw [hi_max, lo_max, ones_eq] at h
  exact h
set_option maxRecDepth 100000 in
theorem clamp_0 (k : Int) : 0 ≤ min (max k 0) 128 := by omega
set_option maxRecDepth 100000 in
theorem clamp_1 (k : Int) : min (max k 0) 128 ≤ 128 := by omega

set_option maxRecDepth 100000 in
set_option maxHeartbeats 1000000 in
theorem ones_any (k : Int) (w : World) :
    Calls Tryz.prog 40 #[.int .i64 k] w (RetV (ones k) w) := by
  have k0 := clamp_0 k
  have k1 := clamp_1 k
  have s1 : IntKind.i64.wrap (128 - min (max k 0) 128) = 128 - min (max k 0) 128 := IntWalk.i64_in _ (by omega)
  go_enter Tryz.func40, Tryz.ntmps40
  go_wp2
  go_region_held3 (fun w' => w'.cell? ⟨w.heap.size + 1, 0, none⟩ = some (.int .u64 18446744073709551615) ∧ w'.cell? ⟨w.heap.size + 1, 1, none⟩ = some (.int .u64 18446744073709551615)) (simp [go_sem, *])
    (first
      | (go_at_call 72; refine (clamp_any k 128 (by omega) _).mono ?_; rintro e w' ⟨rfl, rfl⟩)
      | (go_at_call 71; refine (right_max k _).mono ?_; rintro e w' ⟨rfl, hb⟩; obtain ⟨hc, hf, hz⟩ := after (w.heap.size + 2) hb (by simp) (by simp)))
  go_wp2
  refine bodyPost_ret (v := .agg #[.int .u64 (hi (ones k)), .int .u64 (lo (ones k))]) (by simp [results, Tryz.results40, go_sem, hc]) rfl ⟨rfl, ?_⟩
  exact Below.setCell (Below.setCell (((((Below.refl _ _).alloc (by simp) _).alloc (by simp) _).drew).trans (hb.mono (by simp; omega))) (by simp) _) (by simp) _

end
/- Rows of n cells: how they are made, read whole and stored whole. -/
section
open Go.RowKit

def rowL (n : Nat) (f : Nat → Value) : List Value := (List.range n).map f
def rowA (n : Nat) (f : Nat → Value) : Array Value := (rowL n f).toArray
set_option maxRecDepth 100000 in
theorem rowL_len (n : Nat) (f : Nat → Value) : (rowL n f).length = n := by simp [rowL]
set_option maxRecDepth 100000 in
theorem rowA_size (n : Nat) (f : Nat → Value) : (rowA n f).size = n := by simp [rowA, rowL]
set_option maxRecDepth 100000 in
theorem rowA_get (n : Nat) (f : Nat → Value) (i : Nat) (h : i < n) : (rowA n f)[i]? = some (f i) := by
  simp [rowA, rowL, h]
set_option maxRecDepth 100000 in
theorem rowL_get (n : Nat) (f : Nat → Value) (i : Nat) (h : i < n) : (rowL n f)[i]? = some (f i) := by
  simp [rowL, h]
set_option maxRecDepth 100000 in
theorem rowL_one {n : Nat} {f : Nat → Value} (h : ∀ i, i < n → (f i).oneCell' = true) : ∀ v ∈ rowL n f, v.oneCell' = true := fun v hv => by
  obtain ⟨i, hi, rfl⟩ := List.mem_map.1 hv
  exact h i (List.mem_range.1 hi)
set_option maxRecDepth 100000 in
theorem rowL_congr {n : Nat} {f g : Nat → Value} (h : ∀ i, i < n → f i = g i) : rowL n f = rowL n g := by
  unfold rowL
  apply List.map_congr_left
  intro i hi
  exact h i (List.mem_range.1 hi)
set_option maxRecDepth 100000 in
theorem rowA_congr {n : Nat} {f g : Nat → Value} (h : ∀ i, i < n → f i = g i) : rowA n f = rowA n g := by
  unfold rowA; rw [rowL_congr h]

/-- The n cells f lie in block b, and may be written. -/
structure RowAt (w : World) (b n : Nat) (f : Nat → Value) : Prop where
  cell : ∀ i, i < n → w.cell? ⟨b, i, none⟩ = some (f i)
  froz : ∀ i, i < n → w.frozen? ⟨b, i, none⟩ = false
section
variable {w w' : World} {b n : Nat} {f g : Nat → Value}
set_option maxRecDepth 100000 in
theorem RowAt.range (h : RowAt w b n f) : w.rangeAt b 0 (rowL n f) := fun j v hv => by
  have hj : j < n := by have := (List.getElem?_eq_some_iff.1 hv).1; rwa [rowL_len] at this
  rw [rowL_get n f j hj] at hv
  rw [Nat.zero_add, h.cell j hj, hv]
set_option maxRecDepth 100000 in
theorem RowAt.there (h : RowAt w b n f) : w.there b 0 n := fun j hj => by
  rw [Nat.zero_add, h.cell j hj, h.froz j hj]; exact ⟨rfl, rfl⟩
set_option maxRecDepth 100000 in
theorem RowAt.new (w : World) (n : Nat) (f : Nat → Value) (t : TypeId) : RowAt (w.alloc (.cells (rowA n f) t)) w.heap.size n f :=
  ⟨fun i h => by rw [World.cell?_alloc_new]; exact rowA_get n f i h, fun i _ => World.frozen?_alloc_new _ _ _ _⟩
set_option maxRecDepth 100000 in
theorem RowAt.past (h : RowAt w b n f) (hb : b < w.heap.size) (o : Obj) : RowAt (w.alloc o) b n f :=
  ⟨fun i hi => by rw [World.cell?_alloc_past _ _ _ hb]; exact h.cell i hi, fun i hi => by rw [World.frozen?_alloc_past _ _ _ hb]; exact h.froz i hi⟩
set_option maxRecDepth 100000 in
theorem RowAt.drew (h : RowAt w b n f) : RowAt w.drew b n f := ⟨h.cell, h.froz⟩
set_option maxRecDepth 100000 in
theorem RowAt.below {B : Nat} (h : RowAt w b n f) (hB : Below B w w') (hb : b < B) : RowAt w' b n f :=
  ⟨fun i hi => by rw [hB.cell (p := ⟨b, i, none⟩) hb]; exact h.cell i hi, fun i hi => by rw [hB.frozen (p := ⟨b, i, none⟩) hb]; exact h.froz i hi⟩
set_option maxRecDepth 100000 in
theorem RowAt.far (h : RowAt w b n f) (p : Addr) (hp : p.block ≠ b) (v : Value) : RowAt (w.setCell p v) b n f :=
  ⟨fun i hi => by rw [World.cell?_setCell_far _ _ _ _ hp]; exact h.cell i hi, fun i hi => by rw [World.frozen?_setCell]; exact h.froz i hi⟩
set_option maxRecDepth 100000 in
theorem RowAt.put (h : RowAt w b n f) (k : Nat) (hk : k < n) (x : Value) (hg : ∀ i, i < n → g i = if i = k then x else f i) : RowAt (w.setCell ⟨b, k, none⟩ x) b n g :=
  ⟨fun i hi => by
    rw [hg i hi]
    by_cases e : i = k
    · subst e
      rw [if_pos rfl, World.cell?_setCell_same' _ _ _ (by rw [h.cell i hi]; rfl)]
    · rw [if_neg e, World.cell?_setCell_other _ _ _ _ (by intro e'; injection e' with _ e2; exact e e2.symm), h.cell i hi],
   fun i hi => by rw [World.frozen?_setCell]; exact h.froz i hi⟩
set_option maxRecDepth 100000 in
theorem RowAt.congr (h : RowAt w b n f) (hg : ∀ i, i < n → f i = g i) : RowAt w b n g :=
  ⟨fun i hi => by rw [← hg i hi]; exact h.cell i hi, h.froz⟩
set_option maxRecDepth 100000 in
theorem RowAt.stored (h : w.there b 0 n) (g : Nat → Value) : RowAt (w.setCells b 0 (rowL n g)) b n g :=
  ⟨fun i hi => by
    have := World.rangeAt_setCells_same w b 0 (rowL n g) (by rw [rowL_len]; exact h) i (g i) (rowL_get n g i hi)
    rwa [Nat.zero_add] at this,
   fun i hi => by rw [World.frozen?_setCells]; have := (h i hi).2; rwa [Nat.zero_add] at this⟩
set_option maxRecDepth 100000 in
theorem RowAt.farAll (h : RowAt w b n f) {b' : Nat} (hb : b' ≠ b) (o : Nat) (vs : List Value) : RowAt (w.setCells b' o vs) b n f :=
  ⟨fun i hi => by rw [World.cell?_setCells_out b' vs o w ⟨b, i, none⟩ (fun e => absurd e.symm hb)]; exact h.cell i hi,
   fun i hi => by rw [World.frozen?_setCells]; exact h.froz i hi⟩
end
set_option maxRecDepth 100000 in
theorem belowCells {B : Nat} {w0 w : World} (h : Below B w0 w) {b : Nat} (hb : B ≤ b) : ∀ (o : Nat) (vs : List Value), Below B w0 (w.setCells b o vs) := fun o vs => by
  induction vs generalizing o w with
  | nil => exact h
  | cons v vs ih => exact ih (h.setCell (p := ⟨b, o, none⟩) hb v) (o + 1)

/-! arrays of a type t of n one-cell elements -/
section
variable {P : Program} {t : TypeId} {k e : Nat} {n : Nat} {w : World} {b : Nat} {f : Nat → Value}
set_option maxRecDepth 100000 in
theorem wpList_load_row (hu : P.underlying t = some (.array k e)) (hi : (P.info? t).map (·.size) = some n)
    {ops : Array Oper} {rest : List Oper} {op : Oper} {a : Act} {Q : Exit → Act → World → Prop} (hgd : op.guard = none) {x : Operand} (ho : op.op = .load t x)
    (hx : a.eval x = .pointer (some ⟨b, 0, none⟩)) (h : RowAt w b n f) (K : wpList P ops Q rest (a.put op.dst (.agg (rowA n f))) w) : wpList P ops Q (op :: rest) a w :=
  wpList_load_mid hgd t x ho b 0 hx (rowL n f) _ h.range hu rfl (by rw [rowL_len]; exact hi) K
set_option maxRecDepth 100000 in
theorem wpList_store_row (hi : (P.info? t).map (·.size) = some n) (h1 : ∀ i, i < n → (f i).oneCell' = true)
    {ops : Array Oper} {rest : List Oper} {op : Oper} {a : Act} {Q : Exit → Act → World → Prop} (hgd : op.guard = none) {x y : Operand} (ho : op.op = .store t x y)
    (hx : a.eval x = .pointer (some ⟨b, 0, none⟩)) (hy : a.eval y = .agg (rowA n f)) (h : w.there b 0 n) (K : wpList P ops Q rest (a.put op.dst undef) (w.setCells b 0 (rowL n f))) : wpList P ops Q (op :: rest) a w :=
  wpList_store_mid hgd t x y ho b 0 (rowA n f) hx hy (by rw [rowA_size]; exact h) (by rw [rowA_size]; exact hi) (all_oneCell_toArray (rowL_one h1)) K
end
end
/- fullBytes and Bytes of package value. -/
section
open Go.RowKit

/-- Byte j of a, the lowest one first. -/
def byteOf (a j : Nat) : Int := ((a / 2 ^ (8 * j) % 256 : Nat) : Int)
/-- How many bytes the canonical string of a has. -/
def nb (a : Nat) : Nat := max 1 ((bitLen a + 7) / 8)
/-- The canonical bytes of a, as cells. -/
def byteCells (a : Nat) : List Value := rowL (nb a) fun i => .int .u8 (byteOf a (nb a - 1 - i))
end
end Go.Proofs.YtodmkmoglchoeaaGreatDoor
