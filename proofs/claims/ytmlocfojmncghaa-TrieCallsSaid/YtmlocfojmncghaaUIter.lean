/- Contracts, joined: URng, UIter. -/
import Derived.RangeFuncNested
import Derived.RangeFuncBound
import Derived.RangeFuncCalls
import Derived.RangeFuncLeaves
import Derived.RangeFuncWrites
import Derived.Test.YtmlocfojmncghaaPure
import Derived.Shelf.Abstract
import Derived.Shelf.RegionOpen
import Derived.WalkKit
import Derived.OwnWalkIn
import Derived.TacticsInMore
import Derived.LoopNIn
import Derived.LoopIn
import Derived.Test.YtmlocfojmncghaaUPre
namespace Go.Proofs.Ytmlocfojmncghaa
section
open Go.RowKit
/-- what lies below B decides J -/
def StaysU {β : Type} (B : Nat) (J : β → World → Prop) : Prop := ∀ s W W', J s W → Below B W W' → J s W'
/-- what an iterator with cells of its own promises: Gd: what can have come -/
def SeqB2 {α : Type} (n : Nat) (P : Program) (g : Nat) (lb : Array Value) (encs : α → Array Value) (Gd : List α → Prop) (Kp : World → World → Prop) (S Sp : List α → Prop) (w : World) : Prop :=
  ∀ (l : Nat) (J Jx : List α → World → Prop) (W : World), Below w.heap.size w W → w.heap.size + 2 ≤ W.heap.size → StaysU W.heap.size J → StaysU W.heap.size Jx →
    (∀ pre x W1, Gd (pre ++ [x]) → J pre W1 → YieldAt Fence.wide (n - 1) P l (encs x) W1 fun e W' =>
      (e = .returned (.bool true) ∧ J (pre ++ [x]) W' ∧ Kp W1 W') ∨ (e = .returned (.bool false) ∧ Jx (pre ++ [x]) W' ∧ Kp W1 W')) →
    J [] W →
    CallsIn Fence.wide n P g (#[.func (.yield l) #[] #[]] ++ lb) W fun e W' => (∃ v, e = .returned v) ∧ ((∃ xs, S xs ∧ J xs W') ∨ (∃ pre, Sp pre ∧ Jx pre W'))
theorem below_putU {B : Nat} (W : World) (k : Nat) (o : Obj) (hB : B ≤ W.heap.size) (hk : B ≤ k) : Below B W (W.putObj k o) :=
  (Below.refl B W).grown (grownBy_putObj' W k o) hB (fun j e => by injection e with e; omega)
/-- how a round may be left: the loop's two blocks as they lay -/
def ownPostB {α : Type} (B : Nat) (Kp : World → World → Prop) (I : List α → World → Prop) (Ix : Code → List α → World → Prop) (xs : List α) (W : World) : Exit → Act → World → Prop
  | .normal, _, W' => (∀ j, B ≤ j → j < B + 2 → W'.heap[j]? = W.heap[j]?) ∧ Kp W W' ∧ I xs W'
  | .ret, _, W' => (∀ j, B ≤ j → j < B + 2 → W'.heap[j]? = W.heap[j]?) ∧ Kp W W' ∧ Ix .ret xs W'
  | .exit id, _, W' => (∀ j, B ≤ j → j < B + 2 → W'.heap[j]? = W.heap[j]?) ∧ Kp W W' ∧ Ix (.exit id) xs W'
  | .goto t, _, W' => (∀ j, B ≤ j → j < B + 2 → W'.heap[j]? = W.heap[j]?) ∧ Kp W W' ∧ Ix (.goto t) xs W'
  | .panic _, _, _ => False
  | .outgrown, _, _ => False
theorem wp_rangeB {n : Nat} {P : Program} {α : Type} {g : Operand} {ps : Array Tmp} {assign body : Code} {Q : Exit → Act → World → Prop} {a : Act} {w : World}
    {gf : Nat} {lb : Array Value} (hg : a.eval g = .func (.func gf) #[] lb) (eg : ∀ args w, (callFunc gf args).run P w = .ok (.enter gf args) w)
    {encs : α → Array Value} {Gd : List α → Prop} {Kp : World → World → Prop} {S Sp : List α → Prop} {w0 : World} (hseq : SeqB2 (n - 1) P gf lb encs Gd Kp S Sp w0)
    (hKt : ∀ {A B C : World}, Kp A B → Kp B C → Kp A C) (hKb : ∀ (W : World) (o' : Obj), Kp W (W.putObj (w.heap.size + 1) o')) (hb0 : Below w0.heap.size w0 w) (hps : ∀ x, (encs x).size = ps.size)
    (I : List α → World → Prop) (Ix : Code → List α → World → Prop) (hI : StaysU w.heap.size I) (hIx : ∀ c, StaysU w.heap.size (Ix c)) (h0 : I [] w) (a₁ : α → Act)
    (hassign : ∀ (l : Nat) (x : α) (W : World) (K : Act → World → Prop), K (a₁ x) W →
      assign.wpIn (Fence.wide.inRound l) (n - 1 - 1) P (Exit.then K (fun _ _ _ => False)) { tmps := (ps.zip (encs x)).foldl (fun t (p, v) => t.setIfInBounds p v) a.tmps, defers := [] } W)
    (hbody : ∀ (l : Nat) (pre : List α) (x : α) (W : World), Gd (pre ++ [x]) → w.heap.size + 2 ≤ W.heap.size → I pre W → body.wpIn (Fence.wide.inRound l) (n - 1 - 1) P (ownPostB w.heap.size Kp I Ix (pre ++ [x]) W) (a₁ x) W)
    (hdone : ∀ (D : Nat) (xs : List α) (W : World), w.heap.size ≤ D → S xs → I xs W → W.heap[D]? = some (.deferred (some [])) → Q .normal { a with defers := { target := .collected D, args := #[] } :: a.defers } W)
    (hstop : ∀ (D : Nat) (c : Code) (pre : List α) (W : World), w.heap.size ≤ D → Sp pre → Ix c pre W → W.heap[D]? = some (.deferred (some [])) → c.wpIn Fence.wide n P Q { a with defers := { target := .collected D, args := #[] } :: a.defers } W) :
    (Code.rangeFunc g ps assign body).wpIn Fence.wide n P Q a w := by
  refine wpIn_rangeFunc fun fn hfn => ?_
  -- the two blocks of the loop: the deferred calls at D, the record at D + 1
  let rec1 : LoopState → Option Code → Loop := fun st pe => { state := st, pending := pe, fn, tmps := a.tmps, params := ps, assign, body, defers := w.heap.size }
  obtain ⟨mk, hmk⟩ : ∃ mk, mk = rec1 := ⟨_, rfl⟩
  obtain ⟨W1, hW1⟩ : ∃ W1, (w.alloc (.deferred (some []))).alloc (.loop (mk .ready none)) = W1 := ⟨_, rfl⟩
  have hL1 : W1.heap[w.heap.size + 1]? = some (.loop (mk .ready none)) := by
    have := World.alloc_heap_new (w.alloc (.deferred (some []))) (.loop (mk .ready none))
    rw [World.size_alloc] at this
    rw [← hW1]; exact this
  have hK1 : W1.heap[w.heap.size]? = some (.deferred (some [])) := by
    rw [← hW1]; exact (Below.heap_alloc _ _ _ (by simp)).trans (World.alloc_heap_new w _)
  have hbw : Below w.heap.size w W1 := by rw [← hW1]; exact ((Below.refl _ w).alloc (Nat.le_refl _) _).alloc (by simp) _
  have hs1 : W1.heap.size = w.heap.size + 2 := by rw [← hW1]; simp
  have hst : ∀ {A B : World} {k : Nat}, Below W1.heap.size A B → k < w.heap.size + 2 → B.heap[k]? = A.heap[k]? := fun h hk => h.block _ (by omega)
  refine ⟨w.heap.size + 1, [{ target := .collected w.heap.size, args := #[] }], W1, { target := .fn (.func gf) lb, args := #[.func (.yield (w.heap.size + 1)) #[] #[]] }, W1, gf,
    #[.func (.yield (w.heap.size + 1)) #[] #[]] ++ lb, W1, ?_, ?_, ?_, ?_, fun h => by simp [Fence.wide] at h, ?_⟩
  · rw [← hW1, hmk]; exact run_enterLoop_outer _ _ _ _ _
  · simp only [resolve, hg]
    simp [go_sem]
  · intro f' _; trivial
  · simp [invoke, go_sem, eg]
  · refine (hseq (w.heap.size + 1)
      (fun pre W => I pre W ∧ W.heap[w.heap.size + 1]? = some (.loop (mk .ready none)) ∧ W.heap[w.heap.size]? = some (.deferred (some [])))
      (fun pre W => ∃ c, Ix c pre W ∧ W.heap[w.heap.size + 1]? = some (.loop (mk .done (some c))) ∧ W.heap[w.heap.size]? = some (.deferred (some [])))
      W1 (hb0.trans (hbw.mono hb0.size)) (by have := hb0.size; omega)
      (fun s A B h hb => ⟨hI s A B h.1 (hb.mono (by omega)), (hst hb (by omega)).trans h.2.1, (hst hb (by omega)).trans h.2.2⟩)
      (fun s A B h hb => by
        obtain ⟨c, h1, h2, h3⟩ := h
        exact ⟨c, hIx c s A B h1 (hb.mono (by omega)), (hst hb (by omega)).trans h2, (hst hb (by omega)).trans h3⟩)
      ?_ ⟨hI _ _ _ h0 hbw, hL1, hK1⟩).mono ?_
    · -- a round
      rintro pre x W hGd ⟨hi, hl, hk⟩
      have hlt : w.heap.size + 1 < W.heap.size := (Array.getElem?_eq_some_iff.1 hl).1
      have hy := run_yield (P := P) (args := encs x) hl (by rw [hmk]; exact hps x)
      rw [hmk] at hy
      refine ⟨fn, _, assign, body, hy, roundIn_of_wpIn hfn (hassign _ x W _ ⟨_, run_beginRound hl (by rw [hmk]), ?_⟩)⟩
      have hl2 : (W.putObj (w.heap.size + 1) (.loop { mk .ready none with state := .busy })).heap[w.heap.size + 1]? = some (.loop { mk .ready none with state := .busy }) := World.putObj_heap_same hlt
      have hk2 : (W.putObj (w.heap.size + 1) (.loop { mk .ready none with state := .busy })).heap[w.heap.size]? = some (.deferred (some [])) := (World.putObj_heap_other (by omega)).trans hk
      have hw2 : Kp W (W.putObj (w.heap.size + 1) (.loop { mk .ready none with state := .busy })) := hKb _ _
      have hi2 := hI _ _ _ hi (below_putU W (w.heap.size + 1) (.loop { mk .ready none with state := .busy }) (by omega) (by omega))
      refine wpIn_mono (hbody _ pre x _ hGd (by simp; omega) hi2) ?_
      have fin : ∀ (jump : Option Code) (W3 : World), (∀ j, w.heap.size ≤ j → j < w.heap.size + 2 → W3.heap[j]? = (W.putObj (w.heap.size + 1) (.loop { mk .ready none with state := .busy })).heap[j]?) →
          (Instr.endRound (w.heap.size + 1) jump).run P W3 = .ok (.bool jump.isNone) (W3.putObj (w.heap.size + 1) (.loop (mk (if jump.isNone then .ready else .done) jump))) ∧
          W3.heap[w.heap.size + 1]? = some (.loop { mk .ready none with state := .busy }) ∧
          (W3.putObj (w.heap.size + 1) (.loop (mk (if jump.isNone then .ready else .done) jump))).heap[w.heap.size + 1]? = some (.loop (mk (if jump.isNone then .ready else .done) jump)) ∧
          (W3.putObj (w.heap.size + 1) (.loop (mk (if jump.isNone then .ready else .done) jump))).heap[w.heap.size]? = some (.deferred (some [])) := fun jump W3 hk3 => by
        have hl3 := (hk3 _ (by omega) (by omega)).trans hl2
        have := run_endRound (P := P) jump hl3
        rw [hmk] at this hl3 ⊢
        exact ⟨this, hl3, World.putObj_heap_same (Array.getElem?_eq_some_iff.1 hl3).1, (World.putObj_heap_other (by omega)).trans ((hk3 _ (by omega) (by omega)).trans hk2)⟩
      have put : ∀ {I' : List α → World → Prop} (_ : StaysU w.heap.size I') {W3 : World} (o : Obj), W3.heap[w.heap.size + 1]? = some (.loop { mk .ready none with state := .busy }) → I' (pre ++ [x]) W3 → I' (pre ++ [x]) (W3.putObj (w.heap.size + 1) o) := fun hs W3 o hl3 h3 => hs _ _ _ h3 (below_putU W3 _ o (by have := (Array.getElem?_eq_some_iff.1 hl3).1; omega) (by omega))
      rintro e a3 W3 hp
      cases e with
      | normal =>
        obtain ⟨hk3, hkp3, hi3⟩ := hp
        obtain ⟨hr, hl3, hl4, hk4⟩ := fin none W3 hk3
        exact ⟨_, _, hr, .inl ⟨rfl, ⟨put hI _ hl3 hi3, hl4, hk4⟩, hKt (hKt hw2 hkp3) (hKb _ _)⟩⟩
      | ret =>
        obtain ⟨hk3, hkp3, hi3⟩ := hp
        obtain ⟨hr, hl3, hl4, hk4⟩ := fin (some .ret) W3 hk3
        exact ⟨_, _, hr, .inr ⟨rfl, ⟨.ret, put (hIx _) _ hl3 hi3, hl4, hk4⟩, hKt (hKt hw2 hkp3) (hKb _ _)⟩⟩
      | exit id =>
        obtain ⟨hk3, hkp3, hi3⟩ := hp
        obtain ⟨hr, hl3, hl4, hk4⟩ := fin (some (.exit id)) W3 hk3
        exact ⟨_, _, hr, .inr ⟨rfl, ⟨.exit id, put (hIx _) _ hl3 hi3, hl4, hk4⟩, hKt (hKt hw2 hkp3) (hKb _ _)⟩⟩
      | goto t =>
        obtain ⟨hk3, hkp3, hi3⟩ := hp
        obtain ⟨hr, hl3, hl4, hk4⟩ := fin (some (.goto t)) W3 hk3
        exact ⟨_, _, hr, .inr ⟨rfl, ⟨.goto t, put (hIx _) _ hl3 hi3, hl4, hk4⟩, hKt (hKt hw2 hkp3) (hKb _ _)⟩⟩
      | panic ch => exact hp.elim
      | outgrown => exact hp.elim
    · -- behind the iterator
      have back : ∀ {I' : List α → World → Prop} (_ : StaysU w.heap.size I') {s : List α} {W2 : World} {o' : Obj} (o : Obj), W2.heap[w.heap.size + 1]? = some o' → I' s W2 → I' s (W2.putObj (w.heap.size + 1) o) := fun hs s W2 o' o hl h3 => hs _ _ _ h3 (below_putU W2 _ o (by have := (Array.getElem?_eq_some_iff.1 hl).1; omega) (by omega))
      rintro e W2 ⟨⟨v, rfl⟩, (⟨xs, hS, hi, hl, hk⟩ | ⟨pre, hSp, c, hi, hl, hk⟩)⟩
      · exact ⟨none, _, by have := run_endLoop (P := P) hl (by rw [hmk]; simp [rec1]); rw [hmk] at this; exact this, hdone _ xs _ (Nat.le_refl _) hS (back hI _ hl hi) ((World.putObj_heap_other (by omega)).trans hk)⟩
      · exact ⟨some c, _, by have := run_endLoop (P := P) hl (by rw [hmk]; simp [rec1]); rw [hmk] at this; exact this, hstop _ c pre _ (Nat.le_refl _) hSp (back (hIx c) _ hl hi) ((World.putObj_heap_other (by omega)).trans hk)⟩
end
section
open Go.RowKit Go.Shelf
attribute [local go_sem] Oper.semAt_some
def pthU (bits v n : Nat) : Pth := (List.range n).map fun i => v.testBit (bits - 1 - i)
theorem pthU_len (bits v n : Nat) : (pthU bits v n).length = n := by simp [pthU]
theorem pthU_succ (bits v n : Nat) : pthU bits v (n + 1) = pthU bits v n ++ [v.testBit (bits - 1 - n)] := by simp [pthU, List.range_succ]
def bU (x : Bool) : Int := if x then 1 else 0
theorem pthU_pre (bits v : Nat) {k n : Nat} (h : k ≤ n) : pthU bits v k <+: pthU bits v n := by
  obtain ⟨d, rfl⟩ := Nat.exists_eq_add_of_le h
  clear h
  induction d with
  | zero => exact List.prefix_refl _
  | succ d ih => exact ih.trans (by rw [← Nat.add_assoc, pthU_succ]; exact List.prefix_append _ _)
theorem wrap_bU (x : Bool) : wrap64 (bU x) = bU x := by
  unfold wrap64 bU
  split <;> omega
theorem bit_andU (v m : Nat) : bits .and .u64 (lo (v / 2 ^ m)) 1 = bU (v.testBit m) := by
  have h1 : (1 : Int) = lo 1 := rfl
  rw [h1, and_lo]
  unfold bU
  rw [Nat.testBit_eq_decide_div_mod_eq, Nat.and_one_is_mod]
  unfold lo
  by_cases h : v / 2 ^ m % 2 = 1
  · rw [h]; simp
  · rw [show v / 2 ^ m % 2 = 0 by omega]; simp
/-- two blocks that stay -/
def KpU (a b : Nat) (W W' : World) : Prop := W'.heap[a]? = W.heap[a]? ∧ W'.heap[b]? = W.heap[b]?
theorem KpU.refl (a b : Nat) (W : World) : KpU a b W W := ⟨rfl, rfl⟩
theorem KpU.trans {a b : Nat} {A B C : World} (h : KpU a b A B) (k : KpU a b B C) : KpU a b A C := ⟨k.1.trans h.1, k.2.trans h.2⟩
/-- and no block goes -/
def KpZ (a b : Nat) (W W' : World) : Prop := KpU a b W W' ∧ W.heap.size ≤ W'.heap.size
theorem KpZ.refl (a b : Nat) (W : World) : KpZ a b W W := ⟨KpU.refl _ _ _, Nat.le_refl _⟩
theorem KpZ.trans {a b : Nat} {A B C : World} (h : KpZ a b A B) (k : KpZ a b B C) : KpZ a b A C := ⟨h.1.trans k.1, Nat.le_trans h.2 k.2⟩
theorem grown_belowU {w w' : World} (h : Below w.heap.size w w') (row : Option Nat) : w.grownBy w' row := ⟨h.os, h.tape, h.output, h.size, fun k hk _ => h.block k hk⟩
set_option maxRecDepth 100000 in
theorem fld_loU (a b : Int) (w : World) : (Instr.field 29 (.agg #[.int .u64 a, .int .u64 b]) 1).run Try.prog w = .ok (.int .u64 b) w := by kernel_rfl
def encBU (x : Bool) : Array Value := #[.int .i64 (bU x)]
set_option maxRecDepth 100000 in
set_option maxHeartbeats 2000000 in
theorem ut_bits1 (n : Nat) (hn : 1 ≤ n) (l Bn Bv Bb bits v len : Nat) (hv : v < 2 ^ 128) (hlb : len ≤ bits) (hb8 : bits ≤ 128) (J Jx : List Bool → World → Prop) (W : World) (hJ : ∀ s A B, J s A → W.heap.size ≤ A.heap.size → Below A.heap.size A B → J s B)
    (hY : ∀ pre x W, pre ++ [x] <+: pthU bits v len → J pre W → YieldAt Fence.wide (n - 1) Try.prog l (encBU x) W fun e W' =>
      (e = .returned (.bool true) ∧ J (pre ++ [x]) W' ∧ KpZ Bv Bb W W') ∨ (e = .returned (.bool false) ∧ Jx (pre ++ [x]) W'))
    (cn : W.cell? ⟨Bn, 0, none⟩ = some (.int .i64 len)) (hv0 : W.heap[Bv]? = some (.cells #[.int .u64 (hi v), .int .u64 (lo v)] 29 (0, 0))) (hb0 : W.heap[Bb]? = some (.cells #[.int .i64 bits] 3 (0, 0))) (h0 : J [] W) :
    CallsIn Fence.wide n Try.prog 88 #[.func (.yield l) #[] #[], .pointer (some ⟨Bn, 0, none⟩), .pointer (some ⟨Bv, 0, none⟩), .pointer (some ⟨Bb, 0, none⟩)] W fun e W' => (∃ v, e = .returned v) ∧
      ((∃ ys, ys = pthU bits v len ∧ J ys W') ∨ (∃ pre, True ∧ Jx pre W')) := by
  refine callsIn_of_wp Try.func88 rfl trivial ?_ rfl
  simp only [Try.ntmps88, List.size_toArray, List.length_cons, List.length_nil, Nat.reduceAdd, Nat.reduceSub, Array.replicate_succ, Array.replicate_zero, List.push_toArray, List.append_toArray, List.nil_append, List.cons_append]
  gi_wp2
  gi_loopw [7] (fun i wr => ∃ k : Nat, k ≤ len ∧ i = .int .i64 (k : Int) ∧ J (pthU bits v k) wr ∧ KpZ Bv Bb W wr)
    (fun i _ => len - (intOf i).toNat)
  case atStart => exact ⟨0, Nat.zero_le _, rfl, h0, KpZ.refl _ _ _⟩
  case round =>
    obtain ⟨k, hk, rfl, hJs, hnx⟩ := hrel
    by_cases hlt : k < len
    · have q1 := hnx.1.1.trans hv0
      have q2 := hnx.1.2.trans hb0
      have c0 := blk_cell q1 0 _ rfl
      have c1 := blk_cell q1 1 _ rfl
      have c2 := blk_cell q2 0 _ rfl
      have hki : (k : Int) < (len : Int) := by omega
      have e1 : (bits : Int) - 1 - k = ((bits - 1 - k : Nat) : Int) := by omega
      have e2 : (((bits - 1 - k : Nat) : Int)).toNat = bits - 1 - k := by simp
      have hm : ((bits - 1 - k : Nat) : Int) ≤ 9223372036854775807 := by omega
      have HB := Lib.hid (bit_andU v (bits - 1 - k))
      have hf := fld_loU
      have hw1 : bU (v.testBit (bits - 1 - k)) = wrap64 (Go.bits .and .u64 (lo (v / 2 ^ (bits - 1 - k))) 1) := by rw [HB.out, wrap_bU]
      gi_wp2_with (refine ⟨trivial, ?_⟩; gi_at_call 89; refine (callsIn_wide.2 (right_any v _ hv (by omega) _)).mono ?_; rintro e w1 ⟨rfl, hb1⟩; have hJ1 := hJ _ _ _ hJs hnx.2 hb1; obtain ⟨fn, tmps, assign, body, hy, hR⟩ := hY _ (v.testBit (bits - 1 - k)) w1 (by rw [← pthU_succ]; exact pthU_pre _ _ (by omega)) hJ1; dsimp only [encBU] at hy; rw [hw1] at hy; have hk1 : KpZ Bv Bb W w1 := hnx.trans ⟨⟨hb1.block _ (heap_ltU q1), hb1.block _ (heap_ltU q2)⟩, hb1.size⟩)
      refine hR.mono ?_
      rintro e W3 (⟨rfl, hJ3, hk3⟩ | ⟨rfl, hJx3⟩)
      · gi_wp2
        go_roundw
        case rel => exact ⟨k + 1, by omega, by first | rfl | (congr 1; omega) | (simp; omega), by rw [pthU_succ]; exact hJ3, hk1.trans hk3⟩
        case measure => (first | (simp [intOf]; done) | (simp [intOf]; omega))
      · gi_wp2
        refine bodyPost_ret (results_none rfl _ _ _) rfl ?_
        exact ⟨⟨_, rfl⟩, .inr ⟨_, trivial, hJx3⟩⟩
    · obtain rfl : k = len := by omega
      have hneg : ¬ (k : Int) < (k : Int) := by omega
      gi_wp2
      go_end0
      first | exact ⟨⟨_, rfl⟩, .inl ⟨_, rfl, hJs⟩⟩ | exact ⟨⟨_, rfl⟩, .inl hJs⟩
theorem pre_ltU {α : Type} {pre q : List α} {x : α} (h : pre ++ [x] <+: q) : pre.length < q.length := by
  have := h.length_le
  simp at this
  omega
theorem ut_bits1_stops (n : Nat) (hn : 1 ≤ n) (Bn Bv Bb bits v len : Nat) (hv : v < 2 ^ 128) (hlb : len ≤ bits) (hb8 : bits ≤ 128) (w : World)
    (hBn : w.heap[Bn]? = some (.cells #[.int .i64 len] 3 (0, 0))) (hv0 : w.heap[Bv]? = some (.cells #[.int .u64 (hi v), .int .u64 (lo v)] 29 (0, 0))) (hb0 : w.heap[Bb]? = some (.cells #[.int .i64 bits] 3 (0, 0))) :
    SeqStopsK Fence.wide n Try.prog 88 #[.pointer (some ⟨Bn, 0, none⟩), .pointer (some ⟨Bv, 0, none⟩), .pointer (some ⟨Bb, 0, none⟩)] encBU (KpZ Bv Bb) (fun ys => ys = pthU bits v len) (fun _ => True) len w := fun l J Jx W hW hJ _ hY h0 =>
  ut_bits1 n hn l Bn Bv Bb bits v len hv hlb hb8 J Jx W (fun s A B h _ hb => hJ s A B none h (grown_belowU hb none) (fun r e => by cases e)) (fun pre x W1 hp h => hY pre x W1 h (by have := pre_ltU hp; rwa [pthU_len] at this)) (blk_cell ((hW.block Bn (heap_ltU hBn)).trans hBn) 0 _ rfl) ((hW.block Bv (heap_ltU hv0)).trans hv0) ((hW.block Bb (heap_ltU hb0)).trans hb0) h0
theorem ut_bits1_B (n : Nat) (hn : 1 ≤ n) (Bn Bv Bb bits v len : Nat) (hv : v < 2 ^ 128) (hlb : len ≤ bits) (hb8 : bits ≤ 128) (w : World)
    (hBn : w.heap[Bn]? = some (.cells #[.int .i64 len] 3 (0, 0))) (hv0 : w.heap[Bv]? = some (.cells #[.int .u64 (hi v), .int .u64 (lo v)] 29 (0, 0))) (hb0 : w.heap[Bb]? = some (.cells #[.int .i64 bits] 3 (0, 0))) :
    SeqB2 n Try.prog 88 #[.pointer (some ⟨Bn, 0, none⟩), .pointer (some ⟨Bv, 0, none⟩), .pointer (some ⟨Bb, 0, none⟩)] encBU (fun ys => ys <+: pthU bits v len) (KpZ Bv Bb) (fun ys => ys = pthU bits v len) (fun _ => True) w := fun l J Jx W hW _ hJ _ hY h0 =>
  ut_bits1 n hn l Bn Bv Bb bits v len hv hlb hb8 J Jx W (fun s A B h hz hb => hJ s A B h (hb.mono hz)) (fun pre x W1 hp h => (hY pre x W1 hp h).mono fun _ _ he => he.imp id fun h => ⟨h.1, h.2.1⟩) (blk_cell ((hW.block Bn (heap_ltU hBn)).trans hBn) 0 _ rfl) ((hW.block Bv (heap_ltU hv0)).trans hv0) ((hW.block Bb (heap_ltU hb0)).trans hb0) h0
/-- the world behind firstBits: three boxes -/
def fbU (w : World) (v bits n : Nat) : World := ((w.alloc (.cells #[.int .u64 (hi v), .int .u64 (lo v)] 29)).alloc (.cells #[.int .i64 bits] 3)).alloc (.cells #[.int .i64 n] 3)
theorem fbU_below (w : World) (v bits n : Nat) : Below w.heap.size w (fbU w v bits n) := (((Below.refl _ w).alloc (Nat.le_refl _) _).alloc (by simp) _).alloc (by simp; omega) _
theorem fbU_size (w : World) (v bits n : Nat) : (fbU w v bits n).heap.size = w.heap.size + 3 := by unfold fbU; simp
theorem fbU_v (w : World) (v bits n : Nat) : (fbU w v bits n).heap[w.heap.size]? = some (.cells #[.int .u64 (hi v), .int .u64 (lo v)] 29 (0, 0)) := by
  unfold fbU
  exact (Below.heap_alloc _ _ _ (by simp; omega)).trans ((Below.heap_alloc _ _ _ (by simp)).trans (heap_alloc_new _ _))
theorem fbU_b (w : World) (v bits n : Nat) : (fbU w v bits n).heap[w.heap.size + 1]? = some (.cells #[.int .i64 bits] 3 (0, 0)) := by
  unfold fbU
  have h := heap_alloc_new (w.alloc (.cells #[.int .u64 (hi v), .int .u64 (lo v)] 29)) (.cells #[.int .i64 bits] 3)
  rw [World.size_alloc] at h
  exact (Below.heap_alloc _ _ _ (by simp)).trans h
theorem fbU_n (w : World) (v bits n : Nat) : (fbU w v bits n).heap[w.heap.size + 2]? = some (.cells #[.int .i64 n] 3 (0, 0)) := by
  unfold fbU
  have h := heap_alloc_new ((w.alloc (.cells #[.int .u64 (hi v), .int .u64 (lo v)] 29)).alloc (.cells #[.int .i64 bits] 3)) (.cells #[.int .i64 n] 3)
  rwa [World.size_alloc, World.size_alloc] at h
def fvU (B : Nat) : Value := .func (.func 88) #[] #[.pointer (some ⟨B + 2, 0, none⟩), .pointer (some ⟨B, 0, none⟩), .pointer (some ⟨B + 1, 0, none⟩)]
set_option maxRecDepth 100000 in
set_option maxHeartbeats 1000000 in
theorem ut_firstBits (v bits n : Nat) (w : World) : Calls Try.prog 65 #[.agg #[.int .u64 (hi v), .int .u64 (lo v)], .int .i64 bits, .int .i64 n] w fun e w' => e = .returned (fvU w.heap.size) ∧ w' = fbU w v bits n := by
  unfold fvU fbU
  go_enter Try.func65, Try.ntmps65
  go_wp2
  go_ret
  exact ⟨rfl, rfl⟩
/-- what firstBits leaves: three boxes -/
structure FbU (w : World) (v bits n : Nat) (w' : World) : Prop where
  below : Below w.heap.size w w'
  size : w'.heap.size = w.heap.size + 3
  bv : w'.heap[w.heap.size]? = some (.cells #[.int .u64 (hi v), .int .u64 (lo v)] 29 (0, 0))
  bb : w'.heap[w.heap.size + 1]? = some (.cells #[.int .i64 bits] 3 (0, 0))
  bn : w'.heap[w.heap.size + 2]? = some (.cells #[.int .i64 n] 3 (0, 0))
theorem ut_firstB (v bits n : Nat) (w : World) : Calls Try.prog 65 #[.agg #[.int .u64 (hi v), .int .u64 (lo v)], .int .i64 bits, .int .i64 n] w fun e w' => e = .returned (fvU w.heap.size) ∧ Below w.heap.size w w' ∧ FbU w v bits n w' := by
  refine (ut_firstBits v bits n w).mono ?_
  rintro e w' ⟨rfl, rfl⟩
  exact ⟨rfl, fbU_below _ _ _ _, fbU_below _ _ _ _, fbU_size _ _ _ _, fbU_v _ _ _ _, fbU_b _ _ _ _, fbU_n _ _ _ _⟩
end
end Go.Proofs.Ytmlocfojmncghaa
