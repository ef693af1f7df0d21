/- Layer 12: the program's iterator over the first bits of a value. -/
import Derived.RangeFuncNested
import Derived.RangeFuncBound
import Derived.RangeFuncCalls
import Derived.RangeFuncLeaves
import Derived.RangeFuncWrites
import Derived.Shelf.Abstract
import Derived.Shelf.RegionOpen
import Derived.WalkKit
import Derived.OwnWalkIn
import Derived.TacticsInMore
import Derived.LoopNIn
import Derived.LoopIn
import Derived.Test.YtkennilcojbbgaaUPre
import Derived.Test.YtkennilcojbbgaaURng
namespace Go.Proofs.Ytkennilcojbbgaa
open Go.RowKit Go.Shelf
attribute [local go_sem] Oper.semAt_some
def pthU (bits v n : Nat) : Pth := (List.range n).map fun i => v.testBit (bits - 1 - i)
theorem pthU_len (bits v n : Nat) : (pthU bits v n).length = n := by simp [pthU]
theorem pthU_succ (bits v n : Nat) : pthU bits v (n + 1) = pthU bits v n ++ [v.testBit (bits - 1 - n)] := by simp [pthU, List.range_succ]
def bU (x : Bool) : Int := if x then 1 else 0
theorem pthU_pre (bits v : Nat) {k n : Nat} (h : k ≤ n) : pthU bits v k <+: pthU bits v n := by
  obtain ⟨d, rfl⟩ := Nat.exists_eq_add_of_le h
  clear h
  induction d with
  | zero => exact List.prefix_refl _
  | succ d ih => exact ih.trans (by rw [← Nat.add_assoc, pthU_succ]; exact List.prefix_append _ _)
theorem wrap_bU (x : Bool) : wrap64 (bU x) = bU x := by
  unfold wrap64 bU
  split <;> omega
theorem bit_andU (v m : Nat) : bits .and .u64 (lo (v / 2 ^ m)) 1 = bU (v.testBit m) := by
  have h1 : (1 : Int) = lo 1 := rfl
  rw [h1, and_lo]
  unfold bU
  rw [Nat.testBit_eq_decide_div_mod_eq, Nat.and_one_is_mod]
  unfold lo
  by_cases h : v / 2 ^ m % 2 = 1
  · rw [h]; simp
  · rw [show v / 2 ^ m % 2 = 0 by omega]; simp
/-- two blocks that stay -/
def KpU (a b : Nat) (W W' : World) : Prop := W'.heap[a]? = W.heap[a]? ∧ W'.heap[b]? = W.heap[b]?
theorem KpU.refl (a b : Nat) (W : World) : KpU a b W W := ⟨rfl, rfl⟩
theorem KpU.trans {a b : Nat} {A B C : World} (h : KpU a b A B) (k : KpU a b B C) : KpU a b A C := ⟨k.1.trans h.1, k.2.trans h.2⟩
/-- and no block goes -/
def KpZ (a b : Nat) (W W' : World) : Prop := KpU a b W W' ∧ W.heap.size ≤ W'.heap.size
theorem KpZ.refl (a b : Nat) (W : World) : KpZ a b W W := ⟨KpU.refl _ _ _, Nat.le_refl _⟩
theorem KpZ.trans {a b : Nat} {A B C : World} (h : KpZ a b A B) (k : KpZ a b B C) : KpZ a b A C := ⟨h.1.trans k.1, Nat.le_trans h.2 k.2⟩
theorem grown_belowU {w w' : World} (h : Below w.heap.size w w') (row : Option Nat) : w.grownBy w' row := ⟨h.os, h.tape, h.output, h.size, fun k hk _ => h.block k hk⟩
set_option maxRecDepth 100000 in
theorem fld_loU (a b : Int) (w : World) : (Instr.field 29 (.agg #[.int .u64 a, .int .u64 b]) 1).run Try.prog w = .ok (.int .u64 b) w := by kernel_rfl
def encBU (x : Bool) : Array Value := #[.int .i64 (bU x)]
set_option maxRecDepth 100000 in
set_option maxHeartbeats 2000000 in
theorem ut_bits1 (n : Nat) (hn : 1 ≤ n) (l Bn Bv Bb bits v len : Nat) (hv : v < 2 ^ 128) (hlb : len ≤ bits) (hb8 : bits ≤ 128) (J Jx : List Bool → World → Prop) (W : World) (hJ : ∀ s A B, J s A → W.heap.size ≤ A.heap.size → Below A.heap.size A B → J s B)
    (hY : ∀ pre x W, pre ++ [x] <+: pthU bits v len → J pre W → YieldAt Fence.wide (n - 1) Try.prog l (encBU x) W fun e W' =>
      (e = .returned (.bool true) ∧ J (pre ++ [x]) W' ∧ KpZ Bv Bb W W') ∨ (e = .returned (.bool false) ∧ Jx (pre ++ [x]) W'))
    (cn : W.cell? ⟨Bn, 0, none⟩ = some (.int .i64 len)) (hv0 : W.heap[Bv]? = some (.cells #[.int .u64 (hi v), .int .u64 (lo v)] 29 (0, 0))) (hb0 : W.heap[Bb]? = some (.cells #[.int .i64 bits] 3 (0, 0))) (h0 : J [] W) :
    CallsIn Fence.wide n Try.prog 90 #[.func (.yield l) #[] #[], .pointer (some ⟨Bn, 0, none⟩), .pointer (some ⟨Bv, 0, none⟩), .pointer (some ⟨Bb, 0, none⟩)] W fun e W' => (∃ v, e = .returned v) ∧
      ((∃ ys, ys = pthU bits v len ∧ J ys W') ∨ (∃ pre, True ∧ Jx pre W')) := by
  refine callsIn_of_wp Try.func90 rfl trivial ?_ rfl
  simp only [Try.ntmps90, List.size_toArray, List.length_cons, List.length_nil, Nat.reduceAdd, Nat.reduceSub, Array.replicate_succ, Array.replicate_zero, List.push_toArray, List.append_toArray, List.nil_append, List.cons_append]
  gi_wp2
  gi_loopw [7] (fun i wr => ∃ k : Nat, k ≤ len ∧ i = .int .i64 (k : Int) ∧ J (pthU bits v k) wr ∧ KpZ Bv Bb W wr)
    (fun i _ => len - (intOf i).toNat)
  case atStart => exact ⟨0, Nat.zero_le _, rfl, h0, KpZ.refl _ _ _⟩
  case round =>
    obtain ⟨k, hk, rfl, hJs, hnx⟩ := hrel
    by_cases hlt : k < len
    · have q1 := hnx.1.1.trans hv0
      have q2 := hnx.1.2.trans hb0
      have c0 := blk_cell q1 0 _ rfl
      have c1 := blk_cell q1 1 _ rfl
      have c2 := blk_cell q2 0 _ rfl
      have hki : (k : Int) < (len : Int) := by omega
      have e1 : (bits : Int) - 1 - k = ((bits - 1 - k : Nat) : Int) := by omega
      have e2 : (((bits - 1 - k : Nat) : Int)).toNat = bits - 1 - k := by simp
      have hm : ((bits - 1 - k : Nat) : Int) ≤ 9223372036854775807 := by omega
      have HB := Lib.hid (bit_andU v (bits - 1 - k))
      have hf := fld_loU
      have hw1 : bU (v.testBit (bits - 1 - k)) = wrap64 (Go.bits .and .u64 (lo (v / 2 ^ (bits - 1 - k))) 1) := by rw [HB.out, wrap_bU]
      gi_wp2_with (refine ⟨trivial, ?_⟩; gi_at_call 91; refine (callsIn_wide.2 (right_any v _ hv (by omega) _)).mono ?_; rintro e w1 ⟨rfl, hb1⟩; have hJ1 := hJ _ _ _ hJs hnx.2 hb1; obtain ⟨fn, tmps, assign, body, hy, hR⟩ := hY _ (v.testBit (bits - 1 - k)) w1 (by rw [← pthU_succ]; exact pthU_pre _ _ (by omega)) hJ1; dsimp only [encBU] at hy; rw [hw1] at hy; have hk1 : KpZ Bv Bb W w1 := hnx.trans ⟨⟨hb1.block _ (heap_ltU q1), hb1.block _ (heap_ltU q2)⟩, hb1.size⟩)
      refine hR.mono ?_
      rintro e W3 (⟨rfl, hJ3, hk3⟩ | ⟨rfl, hJx3⟩)
      · gi_wp2
        go_roundw
        case rel => exact ⟨k + 1, by omega, by first | rfl | (congr 1; omega) | (simp; omega), by rw [pthU_succ]; exact hJ3, hk1.trans hk3⟩
        case measure => (first | (simp [intOf]; done) | (simp [intOf]; omega))
      · gi_wp2
        refine bodyPost_ret (results_none rfl _ _ _) rfl ?_
        exact ⟨⟨_, rfl⟩, .inr ⟨_, trivial, hJx3⟩⟩
    · obtain rfl : k = len := by omega
      have hneg : ¬ (k : Int) < (k : Int) := by omega
      gi_wp2
      go_end0
      first | exact ⟨⟨_, rfl⟩, .inl ⟨_, rfl, hJs⟩⟩ | exact ⟨⟨_, rfl⟩, .inl hJs⟩
theorem pre_ltU {α : Type} {pre q : List α} {x : α} (h : pre ++ [x] <+: q) : pre.length < q.length := by
  have := h.length_le
  simp at this
  omega
theorem ut_bits1_stops (n : Nat) (hn : 1 ≤ n) (Bn Bv Bb bits v len : Nat) (hv : v < 2 ^ 128) (hlb : len ≤ bits) (hb8 : bits ≤ 128) (w : World)
    (hBn : w.heap[Bn]? = some (.cells #[.int .i64 len] 3 (0, 0))) (hv0 : w.heap[Bv]? = some (.cells #[.int .u64 (hi v), .int .u64 (lo v)] 29 (0, 0))) (hb0 : w.heap[Bb]? = some (.cells #[.int .i64 bits] 3 (0, 0))) :
    SeqStopsK Fence.wide n Try.prog 90 #[.pointer (some ⟨Bn, 0, none⟩), .pointer (some ⟨Bv, 0, none⟩), .pointer (some ⟨Bb, 0, none⟩)] encBU (KpZ Bv Bb) (fun ys => ys = pthU bits v len) (fun _ => True) len w := fun l J Jx W hW hJ _ hY h0 =>
  ut_bits1 n hn l Bn Bv Bb bits v len hv hlb hb8 J Jx W (fun s A B h _ hb => hJ s A B none h (grown_belowU hb none) (fun r e => by cases e)) (fun pre x W1 hp h => hY pre x W1 h (by have := pre_ltU hp; rwa [pthU_len] at this)) (blk_cell ((hW.block Bn (heap_ltU hBn)).trans hBn) 0 _ rfl) ((hW.block Bv (heap_ltU hv0)).trans hv0) ((hW.block Bb (heap_ltU hb0)).trans hb0) h0
theorem ut_bits1_B (n : Nat) (hn : 1 ≤ n) (Bn Bv Bb bits v len : Nat) (hv : v < 2 ^ 128) (hlb : len ≤ bits) (hb8 : bits ≤ 128) (w : World)
    (hBn : w.heap[Bn]? = some (.cells #[.int .i64 len] 3 (0, 0))) (hv0 : w.heap[Bv]? = some (.cells #[.int .u64 (hi v), .int .u64 (lo v)] 29 (0, 0))) (hb0 : w.heap[Bb]? = some (.cells #[.int .i64 bits] 3 (0, 0))) :
    SeqB2 n Try.prog 90 #[.pointer (some ⟨Bn, 0, none⟩), .pointer (some ⟨Bv, 0, none⟩), .pointer (some ⟨Bb, 0, none⟩)] encBU (fun ys => ys <+: pthU bits v len) (KpZ Bv Bb) (fun ys => ys = pthU bits v len) (fun _ => True) w := fun l J Jx W hW _ hJ _ hY h0 =>
  ut_bits1 n hn l Bn Bv Bb bits v len hv hlb hb8 J Jx W (fun s A B h hz hb => hJ s A B h (hb.mono hz)) (fun pre x W1 hp h => (hY pre x W1 hp h).mono fun _ _ he => he.imp id fun h => ⟨h.1, h.2.1⟩) (blk_cell ((hW.block Bn (heap_ltU hBn)).trans hBn) 0 _ rfl) ((hW.block Bv (heap_ltU hv0)).trans hv0) ((hW.block Bb (heap_ltU hb0)).trans hb0) h0
/-- the world behind firstBits: three boxes -/
def fbU (w : World) (v bits n : Nat) : World := ((w.alloc (.cells #[.int .u64 (hi v), .int .u64 (lo v)] 29)).alloc (.cells #[.int .i64 bits] 3)).alloc (.cells #[.int .i64 n] 3)
theorem fbU_below (w : World) (v bits n : Nat) : Below w.heap.size w (fbU w v bits n) := (((Below.refl _ w).alloc (Nat.le_refl _) _).alloc (by simp) _).alloc (by simp; omega) _
theorem fbU_size (w : World) (v bits n : Nat) : (fbU w v bits n).heap.size = w.heap.size + 3 := by unfold fbU; simp
theorem fbU_v (w : World) (v bits n : Nat) : (fbU w v bits n).heap[w.heap.size]? = some (.cells #[.int .u64 (hi v), .int .u64 (lo v)] 29 (0, 0)) := by
  unfold fbU
  exact (Below.heap_alloc _ _ _ (by simp; omega)).trans ((Below.heap_alloc _ _ _ (by simp)).trans (heap_alloc_new _ _))
theorem fbU_b (w : World) (v bits n : Nat) : (fbU w v bits n).heap[w.heap.size + 1]? = some (.cells #[.int .i64 bits] 3 (0, 0)) := by
  unfold fbU
  have h := heap_alloc_new (w.alloc (.cells #[.int .u64 (hi v), .int .u64 (lo v)] 29)) (.cells #[.int .i64 bits] 3)
  rw [World.size_alloc] at h
  exact (Below.heap_alloc _ _ _ (by simp)).trans h
theorem fbU_n (w : World) (v bits n : Nat) : (fbU w v bits n).heap[w.heap.size + 2]? = some (.cells #[.int .i64 n] 3 (0, 0)) := by
  unfold fbU
  have h := heap_alloc_new ((w.alloc (.cells #[.int .u64 (hi v), .int .u64 (lo v)] 29)).alloc (.cells #[.int .i64 bits] 3)) (.cells #[.int .i64 n] 3)
  rwa [World.size_alloc, World.size_alloc] at h
def fvU (B : Nat) : Value := .func (.func 90) #[] #[.pointer (some ⟨B + 2, 0, none⟩), .pointer (some ⟨B, 0, none⟩), .pointer (some ⟨B + 1, 0, none⟩)]
set_option maxRecDepth 100000 in
set_option maxHeartbeats 1000000 in
theorem ut_firstBits (v bits n : Nat) (w : World) : Calls Try.prog 67 #[.agg #[.int .u64 (hi v), .int .u64 (lo v)], .int .i64 bits, .int .i64 n] w fun e w' => e = .returned (fvU w.heap.size) ∧ w' = fbU w v bits n := by
  unfold fvU fbU
  go_enter Try.func67, Try.ntmps67
  go_wp2
  go_ret
  exact ⟨rfl, rfl⟩
/-- what firstBits leaves: three boxes -/
structure FbU (w : World) (v bits n : Nat) (w' : World) : Prop where
  below : Below w.heap.size w w'
  size : w'.heap.size = w.heap.size + 3
  bv : w'.heap[w.heap.size]? = some (.cells #[.int .u64 (hi v), .int .u64 (lo v)] 29 (0, 0))
  bb : w'.heap[w.heap.size + 1]? = some (.cells #[.int .i64 bits] 3 (0, 0))
  bn : w'.heap[w.heap.size + 2]? = some (.cells #[.int .i64 n] 3 (0, 0))
theorem ut_firstB (v bits n : Nat) (w : World) : Calls Try.prog 67 #[.agg #[.int .u64 (hi v), .int .u64 (lo v)], .int .i64 bits, .int .i64 n] w fun e w' => e = .returned (fvU w.heap.size) ∧ Below w.heap.size w w' ∧ FbU w v bits n w' := by
  refine (ut_firstBits v bits n w).mono ?_
  rintro e w' ⟨rfl, rfl⟩
  exact ⟨rfl, fbU_below _ _ _ _, fbU_below _ _ _ _, fbU_size _ _ _ _, fbU_v _ _ _ _, fbU_b _ _ _ _, fbU_n _ _ _ _⟩
end Go.Proofs.Ytkennilcojbbgaa
