/- Contracts, joined: Bits, Read, Make, Ref2, Ref3, Ref4. -/
import Derived.Test.YtldgjahpmlafgaaGreatJVal
import Derived.Laws.IdiomCopy
import Derived.Deep.MidRow
import Derived.Deep.WholeRow
import Derived.BigRegion
namespace Go.Proofs.YtldgjahpmlafgaaGreat
/- Arrays of 128 bits: how they are made, read whole and stored whole. -/
section
open Go.RowKit

set_option maxRecDepth 100000 in
/-- An array of 128 bits. (Under a name that no unification opens.) -/
theorem bitsL_exists (f : Nat → Bool) : ∃ l : List Value, l = (List.range 128).map fun i => Value.bool (f i) := ⟨_, rfl⟩
noncomputable def bitsL (f : Nat → Bool) : List Value := (bitsL_exists f).choose
set_option maxRecDepth 100000 in
theorem bitsL_def (f : Nat → Bool) : bitsL f = (List.range 128).map fun i => Value.bool (f i) := (bitsL_exists f).choose_spec
noncomputable def bitsA (f : Nat → Bool) : Array Value := (bitsL f).toArray
set_option maxRecDepth 100000 in
theorem bitsL_len (f : Nat → Bool) : (bitsL f).length = 128 := by simp [bitsL_def]
set_option maxRecDepth 100000 in
theorem bitsA_size (f : Nat → Bool) : (bitsA f).size = 128 := by simp [bitsA, bitsL_def]
set_option maxRecDepth 100000 in
theorem bitsA_get (f : Nat → Bool) (i : Nat) (h : i < 128) : (bitsA f)[i]? = some (.bool (f i)) := by
  simp [bitsA, bitsL_def, h]
set_option maxRecDepth 100000 in
theorem bitsL_get (f : Nat → Bool) (i : Nat) (h : i < 128) : (bitsL f)[i]? = some (.bool (f i)) := by
  simp [bitsL_def, h]
set_option maxRecDepth 100000 in
theorem bitsL_one (f : Nat → Bool) : ∀ v ∈ bitsL f, v.oneCell' = true := fun v hv => by
  rw [bitsL_def] at hv
  obtain ⟨i, _, rfl⟩ := List.mem_map.1 hv
  rfl
set_option maxRecDepth 100000 in
theorem bitsA_congr {f g : Nat → Bool} (h : ∀ i, i < 128 → f i = g i) : bitsA f = bitsA g := by
  unfold bitsA
  rw [bitsL_def, bitsL_def]
  congr 1
  apply List.map_congr_left
  intro i hi
  rw [h i (List.mem_range.1 hi)]

set_option maxRecDepth 100000 in
theorem zero_bits (w : World) : (zeroValue 237).run Tryz.prog w = .ok (.agg (bitsA fun _ => false)) w := by
  rw [bitsA, bitsL_def]
  kernel_rfl
@[simp] theorem zeroCells_bits : Tryz.zeroCells237 = bitsA fun _ => false := by
  rw [bitsA, bitsL_def]
  kernel_rfl
set_option maxRecDepth 100000 in
theorem info_bits : (Tryz.prog.info? 237).map (·.size) = some 128 := by kernel_rfl

/-- The bits f lie in block b, and may be written. -/
structure BitsAt (w : World) (b : Nat) (f : Nat → Bool) : Prop where
  cell : ∀ i, i < 128 → w.cell? ⟨b, i, none⟩ = some (.bool (f i))
  froz : ∀ i, i < 128 → w.frozen? ⟨b, i, none⟩ = false
set_option maxRecDepth 100000 in
theorem BitsAt.range {w : World} {b : Nat} {f : Nat → Bool} (h : BitsAt w b f) : w.rangeAt b 0 (bitsL f) := fun j v hv => by
  have hj : j < 128 := by have := (List.getElem?_eq_some_iff.1 hv).1; rwa [bitsL_len] at this
  rw [bitsL_get f j hj] at hv
  rw [Nat.zero_add, h.cell j hj, hv]
set_option maxRecDepth 100000 in
theorem BitsAt.there {w : World} {b : Nat} {f : Nat → Bool} (h : BitsAt w b f) : w.there b 0 128 := fun j hj => by
  rw [Nat.zero_add, h.cell j hj, h.froz j hj]; exact ⟨rfl, rfl⟩
set_option maxRecDepth 100000 in
theorem BitsAt.new (w : World) (f : Nat → Bool) (t : TypeId) : BitsAt (w.alloc (.cells (bitsA f) t)) w.heap.size f :=
  ⟨fun i h => by rw [World.cell?_alloc_new]; exact bitsA_get f i h, fun i _ => World.frozen?_alloc_new _ _ _ _⟩
set_option maxRecDepth 100000 in
theorem BitsAt.past {w : World} {b : Nat} {f : Nat → Bool} (h : BitsAt w b f) (hb : b < w.heap.size) (o : Obj) : BitsAt (w.alloc o) b f :=
  ⟨fun i hi => by rw [World.cell?_alloc_past _ _ _ hb]; exact h.cell i hi, fun i hi => by rw [World.frozen?_alloc_past _ _ _ hb]; exact h.froz i hi⟩
set_option maxRecDepth 100000 in
theorem BitsAt.drew {w : World} {b : Nat} {f : Nat → Bool} (h : BitsAt w b f) : BitsAt w.drew b f := ⟨h.cell, h.froz⟩
set_option maxRecDepth 100000 in
theorem BitsAt.below {w w' : World} {b B : Nat} {f : Nat → Bool} (h : BitsAt w b f) (hB : Below B w w') (hb : b < B) : BitsAt w' b f :=
  ⟨fun i hi => by rw [hB.cell (p := ⟨b, i, none⟩) hb]; exact h.cell i hi, fun i hi => by rw [hB.frozen (p := ⟨b, i, none⟩) hb]; exact h.froz i hi⟩
set_option maxRecDepth 100000 in
theorem BitsAt.far {w : World} {b : Nat} {f : Nat → Bool} (h : BitsAt w b f) (p : Addr) (hp : p.block ≠ b) (v : Value) : BitsAt (w.setCell p v) b f :=
  ⟨fun i hi => by rw [World.cell?_setCell_far _ _ _ _ hp]; exact h.cell i hi, fun i hi => by rw [World.frozen?_setCell]; exact h.froz i hi⟩
set_option maxRecDepth 100000 in
theorem BitsAt.put {w : World} {b : Nat} {f g : Nat → Bool} (h : BitsAt w b f) (k : Nat) (hk : k < 128) (x : Bool) (hg : ∀ i, i < 128 → g i = if i = k then x else f i) : BitsAt (w.setCell ⟨b, k, none⟩ (.bool x)) b g :=
  ⟨fun i hi => by
    rw [hg i hi]
    by_cases e : i = k
    · subst e
      rw [if_pos rfl, World.cell?_setCell_same' _ _ _ (by rw [h.cell i hi]; rfl)]
    · rw [if_neg e, World.cell?_setCell_other _ _ _ _ (by intro e'; injection e' with _ e2; exact e e2.symm), h.cell i hi],
   fun i hi => by rw [World.frozen?_setCell]; exact h.froz i hi⟩
set_option maxRecDepth 100000 in
theorem BitsAt.congr {w : World} {b : Nat} {f g : Nat → Bool} (h : BitsAt w b f) (hg : ∀ i, i < 128 → f i = g i) : BitsAt w b g :=
  ⟨fun i hi => by rw [← hg i hi]; exact h.cell i hi, h.froz⟩
set_option maxRecDepth 100000 in
theorem BitsAt.stored {w : World} {b : Nat} (h : w.there b 0 128) (g : Nat → Bool) : BitsAt (w.setCells b 0 (bitsL g)) b g :=
  ⟨fun i hi => by
    have := World.rangeAt_setCells_same w b 0 (bitsL g) (by rw [bitsL_len]; exact h) i (.bool (g i)) (bitsL_get g i hi)
    rwa [Nat.zero_add] at this,
   fun i hi => by rw [World.frozen?_setCells]; have := (h i hi).2; rwa [Nat.zero_add] at this⟩

set_option maxRecDepth 100000 in
theorem BitsAt.farAll {w : World} {b : Nat} {f : Nat → Bool} (h : BitsAt w b f) {b' : Nat} (hb : b' ≠ b) (o : Nat) (vs : List Value) : BitsAt (w.setCells b' o vs) b f :=
  ⟨fun i hi => by rw [World.cell?_setCells_out b' vs o w ⟨b, i, none⟩ (fun e => absurd e.symm hb)]; exact h.cell i hi,
   fun i hi => by rw [World.frozen?_setCells]; exact h.froz i hi⟩
set_option maxRecDepth 100000 in
theorem there_below {W w' : World} {b n : Nat} (hx : Below W.heap.size W w') (t : W.there b 0 n) : w'.there b 0 n := fun j hj => by
  obtain ⟨h1, h2⟩ := t j hj
  obtain ⟨u, hu⟩ := Option.isSome_iff_exists.1 h1
  have hl := World.block_lt_of_cell? W _ hu
  rw [hx.cell hl, hx.frozen hl]
  exact ⟨h1, h2⟩
set_option maxRecDepth 100000 in
theorem there_lt {W : World} {b n : Nat} (t : W.there b 0 n) (hn : 0 < n) : b < W.heap.size := by
  obtain ⟨u, hu⟩ := Option.isSome_iff_exists.1 (t 0 hn).1
  exact World.block_lt_of_cell? W _ hu
set_option maxRecDepth 100000 in
theorem drew_size (w : World) : w.drew.heap.size = w.heap.size := rfl
set_option maxRecDepth 100000 in
/-- A new array of bits: the world behind it under a name. -/
theorem upon_new {o : Oper} {a : Act} {K : Act → World → Prop} {Q : Exit → Act → World → Prop} {W : World} (k : Nat) (_ho : o.dst = some k)
    (h : ∀ W' : World, W'.there W.heap.size 0 128 → Below W.heap.size W W' → Oper.upon Tryz.prog o a K Q (.ok (.value (.pointer (some ⟨W.heap.size, 0, none⟩))) W')) :
    Oper.upon Tryz.prog o a K Q (.ok (.value (.pointer (some ⟨W.heap.size, 0, none⟩))) (W.alloc (.cells (bitsA fun _ => false) 237))) :=
  h _ (BitsAt.new W _ _).there ((Below.refl _ _).alloc (Nat.le_refl _) _)
set_option maxRecDepth 100000 in
theorem load_bits {w : World} {b : Nat} {f : Nat → Bool} (h : BitsAt w b f) : (Instr.loadAt 237 (.pointer (some ⟨b, 0, none⟩))).run Tryz.prog w = .ok (.agg (bitsA f)) w :=
  run_loadAt_mid w b 0 237 (bitsL f) _ h.range Tryz.underlying237 rfl (by rw [bitsL_len]; exact info_bits)
set_option maxRecDepth 100000 in
theorem loadVar_bits {w : World} {b : Nat} {f : Nat → Bool} (h : BitsAt w b f) : (loadVar 237 ⟨b, 0, none⟩).run Tryz.prog w = .ok (.agg (bitsA f)) w :=
  run_loadVar_mid w b 0 237 (bitsL f) _ h.range Tryz.underlying237 rfl (by rw [bitsL_len]; exact info_bits)
set_option maxRecDepth 100000 in
theorem store_bits {w : World} {b : Nat} (f : Nat → Bool) (h : w.there b 0 128) : (Instr.storeAt 237 (.pointer (some ⟨b, 0, none⟩)) (.agg (bitsA f))).run Tryz.prog w = .ok () (w.setCells b 0 (bitsL f)) := by
  have := run_storeAt_mid (P := Tryz.prog) w b 0 237 (bitsA f) (by rw [bitsA_size]; exact h) (by rw [bitsA_size]; exact info_bits) (all_oneCell_toArray (bitsL_one f))
  simpa [bitsA] using this
set_option maxRecDepth 100000 in
theorem wpList_load_bits {ops : Array Oper} {rest : List Oper} {op : Oper} {a : Act} {w : World} {Q : Exit → Act → World → Prop} {b : Nat} {f : Nat → Bool} (hgd : op.guard = none) {x : Operand} (ho : op.op = .load 237 x)
    (hx : a.eval x = .pointer (some ⟨b, 0, none⟩)) (h : BitsAt w b f) (K : wpList Tryz.prog ops Q rest (a.put op.dst (.agg (bitsA f))) w) : wpList Tryz.prog ops Q (op :: rest) a w :=
  wpList_load_mid hgd 237 x ho b 0 hx (bitsL f) _ h.range Tryz.underlying237 rfl (by rw [bitsL_len]; exact info_bits) K
theorem wpList_store_bits {ops : Array Oper} {rest : List Oper} {op : Oper} {a : Act} {w : World} {Q : Exit → Act → World → Prop} {b : Nat} {f : Nat → Bool} (hgd : op.guard = none) {x y : Operand} (ho : op.op = .store 237 x y)
    (hx : a.eval x = .pointer (some ⟨b, 0, none⟩)) (hy : a.eval y = .agg (bitsA f)) (h : w.there b 0 128) (K : wpList Tryz.prog ops Q rest (a.put op.dst undef) (w.setCells b 0 (bitsL f))) : wpList Tryz.prog ops Q (op :: rest) a w :=
  wpList_store_mid hgd 237 x y ho b 0 (bitsA f) hx hy (by rw [bitsA_size]; exact h) (by rw [bitsA_size]; exact info_bits) (all_oneCell_toArray (bitsL_one f)) K
theorem wpList_store_newbits {ops : Array Oper} {rest : List Oper} {op : Oper} {a : Act} {w : World} {Q : Exit → Act → World → Prop} {f g : Nat → Bool} (hgd : op.guard = none) {x y : Operand} (ho : op.op = .store 237 x y)
    (hx : a.eval x = .pointer (some ⟨w.heap.size, 0, none⟩)) (hy : a.eval y = .agg (bitsA f)) (K : wpList Tryz.prog ops Q rest (a.put op.dst undef) (w.alloc (.cells (bitsA f) 237))) : wpList Tryz.prog ops Q (op :: rest) a (w.alloc (.cells (bitsA g) 237)) := by
  refine wpList_plain hgd fun _ hK => ?_
  unfold Oper.wp execOp
  have e := run_storeAt_new (P := Tryz.prog) w 237 (bitsA g) (bitsA f) (by rw [bitsA_size]; exact info_bits) (by rw [bitsA_size, bitsA_size]) (all_oneCell_toArray (bitsL_one f))
  simp only [ho, hx, hy, Sem.run_bind, e, Sem.run_pure, Result.andThen_ok]
  exact hK _ _ K
theorem results_bits {fn : Func} {p : Tmp} (hr : fn.results = #[.cell p 237]) {tmps : Array Value} {w : World} {b : Nat} {f : Nat → Bool} (hp : tmps[p]?.getD undef = .pointer (some ⟨b, 0, none⟩)) (h : BitsAt w b f) :
    (results fn tmps).run Tryz.prog w = .ok (.agg (bitsA f)) w := by
  simp only [results, hr]
  simp [hp, asAddr, loadVar_bits h]
theorem Below.setCells {B : Nat} {w0 w : World} (h : Below B w0 w) {b : Nat} (hb : B ≤ b) : ∀ (o : Nat) (vs : List Value), Below B w0 (w.setCells b o vs) := fun o vs => by
  induction vs generalizing o w with
  | nil => exact h
  | cons v vs ih => exact ih (h.setCell (p := ⟨b, o, none⟩) hb v) (o + 1)
end
/- matchguardref01.Read: a value as an array of bits. -/
section
open Go.RowKit

/-- What Read has done after k rounds. -/
structure ReadAt (w : World) (a k : Nat) (w' : World) : Prop where
  below : Below w.heap.size w w'
  size : w.heap.size + 3 ≤ w'.heap.size
  h0 : w'.cell? ⟨w.heap.size, 0, none⟩ = some (.int .u64 (hi a))
  h1 : w'.cell? ⟨w.heap.size, 1, none⟩ = some (.int .u64 (lo a))
  res : BitsAt w' (w.heap.size + 1) fun _ => false
  out : BitsAt w' (w.heap.size + 2) fun i => decide (i % 64 < k) && a.testBit i

set_option maxRecDepth 100000 in
theorem bit_word (n k : Nat) (hn : n < 18446744073709551616) : (bits .and .u64 ((n : Int) / 2 ^ k) 1 == 1) = n.testBit k := by
  rw [show ((2 : Int) ^ k) = ((2 ^ k : Nat) : Int) by simp, ← Int.natCast_ediv, show (1 : Int) = ((1 : Nat) : Int) from rfl,
    u64_and_nat _ _ (Nat.lt_of_le_of_lt (Nat.div_le_self _ _) hn) (by decide), Nat.and_one_is_mod, Bool.eq_iff_iff, Nat.testBit_eq_decide_div_mod_eq]
  simp only [beq_iff_eq, decide_eq_true_eq]
  omega
set_option maxRecDepth 100000 in
theorem bit_lo (a k : Nat) (hk : k < 64) : (bits .and .u64 (lo a / 2 ^ k) 1 == 1) = a.testBit k := by
  unfold lo
  rw [bit_word _ _ (by omega), p64, Nat.testBit_mod_two_pow]
  simp [hk]
set_option maxRecDepth 100000 in
theorem bit_hi (a k : Nat) (hk : k < 64) : (bits .and .u64 (hi a / 2 ^ k) 1 == 1) = a.testBit (k + 64) := by
  unfold hi
  rw [bit_word _ _ (by omega), p64, Nat.testBit_mod_two_pow, Nat.testBit_div_two_pow]
  simp [hk]
set_option maxRecDepth 100000 in
theorem read_step (a k i : Nat) (hk : k < 64) (hi : i < 128) :
    (decide (i % 64 < k + 1) && a.testBit i) = if i = k + 64 then a.testBit (k + 64) else if i = k then a.testBit k else (decide (i % 64 < k) && a.testBit i) := by
  by_cases h : i = k + 64
  · subst h
    have : (k + 64) % 64 < k + 1 := by omega
    rw [if_pos rfl, decide_eq_true this, Bool.true_and]
  · rw [if_neg h]
    by_cases h' : i = k
    · subst h'
      have : i % 64 < i + 1 := by omega
      simp [this]
    · rw [if_neg h']
      congr 1
      rw [decide_eq_decide]
      omega

set_option maxRecDepth 100000 in
set_option maxHeartbeats 1000000 in
theorem read_any (a : Nat) (w : World) :
    Calls Tryz.prog 155 #[.agg #[.int .u64 (hi a), .int .u64 (lo a)]] w (RetX (.agg (bitsA a.testBit)) w) := by
  go_enter Tryz.func155, Tryz.ntmps155
  go_wp2_with (simp only [zero_bits])
  go_loopw [4] (fun i w' => ∃ k : Nat, k ≤ 64 ∧ i = .int .i64 k ∧ ReadAt w a k w') (fun i _ => 64 - (intOf i).toNat)
  case atStart =>
    refine ⟨0, by omega, rfl, ((((Below.refl _ _).alloc (by simp) _).alloc (by simp) _).alloc (by simp; omega) _), by simp, by simp [go_sem], by simp [go_sem], ?_, ?_⟩
    · have h1 := BitsAt.new (w.alloc (.cells #[.int .u64 (hi a), .int .u64 (lo a)] 49)) (fun _ => false) 237
      simp only [World.size_alloc] at h1
      exact h1.past (by simp) _
    · have h1 := BitsAt.new ((w.alloc (.cells #[.int .u64 (hi a), .int .u64 (lo a)] 49)).alloc (.cells (bitsA fun _ => false) 237)) (fun _ => false) 237
      simp only [World.size_alloc] at h1
      exact BitsAt.congr (f := fun _ => false) h1 (fun i _ => by simp)
  case round =>
    obtain ⟨k, hk, rfl, hR⟩ := hrel
    by_cases hlt : (k : Int) < 64
    · have c0 := hR.h0
      have c1 := hR.h1
      have i0 : wr.cell? ⟨w.heap.size + 2, k, none⟩ = some _ := hR.out.cell k (by omega)
      have i1 : wr.cell? ⟨w.heap.size + 2, k + 64, none⟩ = some _ := hR.out.cell (k + 64) (by omega)
      have f0 : wr.frozen? ⟨w.heap.size + 2, k, none⟩ = false := hR.out.froz k (by omega)
      have f1 : wr.frozen? ⟨w.heap.size + 2, k + 64, none⟩ = false := hR.out.froz (k + 64) (by omega)
      go_wp2
      go_region
      go_wp2
      go_roundw
      case rel =>
        go_light
        have hk' : k < 64 := by omega
        rw [bit_lo a k hk', bit_hi a k hk']
        have hs := hR.size
        refine ⟨k + 1, by omega, by simp, ?_⟩
        refine ⟨((hR.below.setCell (by simp; omega) _).setCell (by simp; omega) _).drew, by simp [World.setCell, World.drew]; exact hs, ?_, ?_, ?_, ?_⟩
        · simp only [World.cell?_drew]
          rw [World.cell?_setCell_far _ _ _ _ (by simp; omega), World.cell?_setCell_far _ _ _ _ (by simp; omega)]; exact c0
        · simp only [World.cell?_drew]
          rw [World.cell?_setCell_far _ _ _ _ (by simp; omega), World.cell?_setCell_far _ _ _ _ (by simp; omega)]; exact c1
        · exact ((hR.res.far _ (by simp) _).far _ (by simp) _).drew
        · exact ((hR.out.put (g := fun i => if i = k then a.testBit k else (decide (i % 64 < k) && a.testBit i)) k (by omega) _ (fun i _ => rfl)).put (k + 64) (by omega) _ (fun i hi => read_step a k i hk' hi)).drew
      case measure => simp [intOf]; omega
    · have e : k = 64 := by omega
      subst e
      go_wp2_with (first | refine wpList_load_bits rfl rfl rfl hR.out ?_ | refine wpList_store_bits rfl rfl rfl rfl hR.res.there ?_)
      go_light
      have hB := BitsAt.stored hR.res.there fun i => decide (i % 64 < 64) && a.testBit i
      have e : (bitsA fun i => decide (i % 64 < 64) && a.testBit i) = bitsA a.testBit := bitsA_congr fun i _ => by
        have : i % 64 < 64 := by omega
        simp [this]
      refine bodyPost_ret (v := .agg (bitsA a.testBit)) (by rw [← e]; exact results_bits rfl rfl hB) rfl ⟨rfl, ?_⟩
      exact Below.setCells hR.below (by omega) _ _
end
/- matchguardref01.Make: the value of an array of bits. -/
section
open Go.RowKit

/-- The number of the first n bits of f. -/
def ofB (f : Nat → Bool) : Nat → Nat
  | 0 => 0
  | n + 1 => ofB f n ||| (if f n then 2 ^ n else 0)
theorem testBit_ofB (f : Nat → Bool) : ∀ (n i : Nat), (ofB f n).testBit i = (decide (i < n) && f i)
  | 0, i => by simp [ofB]
  | n + 1, i => by
    rw [ofB, Nat.testBit_or, testBit_ofB f n i]
    by_cases h : i = n
    · subst h
      cases f i <;> simp
    · have e : decide (i < n + 1) = decide (i < n) := by rw [decide_eq_decide]; omega
      rw [e]
      have h' : ¬ n = i := fun e => h e.symm
      cases f n <;> simp [h']
theorem ofB_lt (f : Nat → Bool) (n : Nat) : ofB f n < 2 ^ n := by
  apply Nat.lt_pow_two_of_testBit
  intro i hi
  rw [testBit_ofB]
  have : ¬ i < n := by omega
  simp [this]
/-- The value of 128 bits. -/
def ofBits (f : Nat → Bool) : Nat := ofB f 128
theorem ofBits_lt (f : Nat → Bool) : ofBits f < 2 ^ 128 := ofB_lt f 128
theorem testBit_ofBits (f : Nat → Bool) (i : Nat) : (ofBits f).testBit i = (decide (i < 128) && f i) := testBit_ofB f 128 i
theorem ofBits_eq {f : Nat → Bool} {n : Nat} (hn : n < 2 ^ 128) (h : ∀ i, i < 128 → f i = n.testBit i) : ofBits f = n := by
  apply Nat.eq_of_testBit_eq; intro i
  rw [testBit_ofBits]
  by_cases hi : i < 128
  · simp [hi, h i hi]
  · have := Nat.testBit_lt_two_pow (x := n) (i := i) (Nat.lt_of_lt_of_le hn (Nat.pow_le_pow_right (by decide) (by omega)))
    simp [hi, this]
theorem ofBits_congr {f g : Nat → Bool} (h : ∀ i, i < 128 → f i = g i) : ofBits f = ofBits g :=
  ofBits_eq (ofBits_lt g) fun i hi => by rw [h i hi, testBit_ofBits]; simp [hi]

/-- What Make has made after k rounds. -/
def mk (f : Nat → Bool) (k : Nat) : Nat := ofBits fun i => decide (i % 64 < k) && f i
theorem mk_0 (f : Nat → Bool) : mk f 0 = 0 := ofBits_eq (by decide) fun i _ => by simp
theorem mk_64 (f : Nat → Bool) : mk f 64 = ofBits f := ofBits_congr fun i _ => by
  have : i % 64 < 64 := by omega
  simp [this]
theorem two_pow_word (k : Nat) (hk : k < 64) : (2 ^ k : Nat) < 18446744073709551616 := by
  rw [p64]; exact Nat.pow_lt_pow_right (by decide) hk
theorem testBit_mk (f : Nat → Bool) (k i : Nat) (hi : i < 128) : (mk f k).testBit i = (decide (i % 64 < k) && f i) := by
  unfold mk
  rw [testBit_ofBits]
  simp [hi]
theorem mk_lo_yes (f : Nat → Bool) (k : Nat) (hk : k < 64) (h : f k = true) : bits .or .u64 (lo (mk f k)) (2 ^ k) = lo (mk f (k + 1)) := by
  unfold lo
  rw [show ((2 : Int) ^ k) = ((2 ^ k : Nat) : Int) by simp, u64_or_nat _ _ (Nat.mod_lt _ (by decide)) (two_pow_word k hk)]
  congr 1
  apply Nat.eq_of_testBit_eq; intro i
  rw [Nat.testBit_or, p64, Nat.testBit_mod_two_pow, Nat.testBit_mod_two_pow, Nat.testBit_two_pow]
  by_cases hi : i < 64
  · rw [testBit_mk f k i (by omega), testBit_mk f (k + 1) i (by omega)]
    by_cases e : k = i
    · subst e
      have : k % 64 < k + 1 := by omega
      simp [this, h, hk]
    · have e' : decide (i % 64 < k + 1) = decide (i % 64 < k) := by rw [decide_eq_decide]; omega
      rw [e']
      simp [e]
  · have e : ¬ k = i := by omega
    simp [hi, e]
theorem mk_lo_no (f : Nat → Bool) (k : Nat) (hk : k < 64) (h : f k = false) : lo (mk f k) = lo (mk f (k + 1)) := by
  unfold lo
  refine congrArg (fun n : Nat => (n : Int)) ?_
  apply Nat.eq_of_testBit_eq; intro i
  rw [p64, Nat.testBit_mod_two_pow, Nat.testBit_mod_two_pow]
  by_cases hi : i < 64
  · rw [testBit_mk f k i (by omega), testBit_mk f (k + 1) i (by omega)]
    by_cases e : k = i
    · subst e
      simp [h]
    · have e' : decide (i % 64 < k + 1) = decide (i % 64 < k) := by rw [decide_eq_decide]; omega
      rw [e']
  · simp [hi]
set_option maxRecDepth 100000 in
theorem mk_hi_yes (f : Nat → Bool) (k : Nat) (hk : k < 64) (h : f (k + 64) = true) : bits .or .u64 (hi (mk f k)) (2 ^ k) = hi (mk f (k + 1)) := by
  unfold hi
  rw [show ((2 : Int) ^ k) = ((2 ^ k : Nat) : Int) by simp, u64_or_nat _ _ (Nat.mod_lt _ (by decide)) (two_pow_word k hk)]
  congr 1
  apply Nat.eq_of_testBit_eq; intro i
  rw [Nat.testBit_or, p64, Nat.testBit_mod_two_pow, Nat.testBit_mod_two_pow, Nat.testBit_two_pow, Nat.testBit_div_two_pow, Nat.testBit_div_two_pow]
  by_cases hi : i < 64
  · rw [testBit_mk f k (i + 64) (by omega), testBit_mk f (k + 1) (i + 64) (by omega)]
    by_cases e : k = i
    · subst e
      have : (k + 64) % 64 < k + 1 := by omega
      rw [decide_eq_true this]
      simp [h, hk]
    · have e' : decide ((i + 64) % 64 < k + 1) = decide ((i + 64) % 64 < k) := by rw [decide_eq_decide]; omega
      rw [e']
      simp [e]
  · have e : ¬ k = i := by omega
    simp [hi, e]
set_option maxRecDepth 100000 in
theorem mk_hi_no (f : Nat → Bool) (k : Nat) (hk : k < 64) (h : f (k + 64) = false) : hi (mk f k) = hi (mk f (k + 1)) := by
  unfold hi
  refine congrArg (fun n : Nat => (n : Int)) ?_
  apply Nat.eq_of_testBit_eq; intro i
  rw [p64, Nat.testBit_mod_two_pow, Nat.testBit_mod_two_pow, Nat.testBit_div_two_pow, Nat.testBit_div_two_pow]
  by_cases hi : i < 64
  · rw [testBit_mk f k (i + 64) (by omega), testBit_mk f (k + 1) (i + 64) (by omega)]
    by_cases e : k = i
    · subst e
      simp [h]
    · have e' : decide ((i + 64) % 64 < k + 1) = decide ((i + 64) % 64 < k) := by rw [decide_eq_decide]; omega
      rw [e']
  · simp [hi]

set_option maxRecDepth 100000 in
theorem wrap_pow (k : Nat) (hk : k < 64) : IntKind.u64.wrap (2 ^ k) = 2 ^ k := by
  have := two_pow_word k hk
  rw [IntKind.wrap_u64, show ((2 : Int) ^ k) = ((2 ^ k : Nat) : Int) by simp]
  generalize 2 ^ k = n at this ⊢
  omega

/-- Where Make is: x and y are the words so far. -/
structure MakeAt (w : World) (f : Nat → Bool) (x y : Int) (w' : World) : Prop where
  below : Below w.heap.size w w'
  size : w.heap.size + 3 ≤ w'.heap.size
  arr : BitsAt w' w.heap.size f
  r0 : w'.cell? ⟨w.heap.size + 1, 0, none⟩ = some (.int .u64 0)
  r1 : w'.cell? ⟨w.heap.size + 1, 1, none⟩ = some (.int .u64 0)
  q0 : w'.frozen? ⟨w.heap.size + 1, 0, none⟩ = false
  q1 : w'.frozen? ⟨w.heap.size + 1, 1, none⟩ = false
  h0 : w'.cell? ⟨w.heap.size + 2, 0, none⟩ = some (.int .u64 x)
  h1 : w'.cell? ⟨w.heap.size + 2, 1, none⟩ = some (.int .u64 y)
  f0 : w'.frozen? ⟨w.heap.size + 2, 0, none⟩ = false
  f1 : w'.frozen? ⟨w.heap.size + 2, 1, none⟩ = false
set_option maxRecDepth 100000 in
theorem MakeAt.set0 {w : World} {f : Nat → Bool} {x y : Int} {w' : World} (h : MakeAt w f x y w') (z : Int) : MakeAt w f z y (w'.setCell ⟨w.heap.size + 1 + 1, 0, none⟩ (.int .u64 z)) where
  below := h.below.setCell (by simp; omega) _
  size := by have := h.size; simpa [World.setCell] using this
  arr := h.arr.far _ (by simp; omega) _
  r0 := by rw [World.cell?_setCell_far _ _ _ _ (by simp)]; exact h.r0
  r1 := by rw [World.cell?_setCell_far _ _ _ _ (by simp)]; exact h.r1
  q0 := by rw [World.frozen?_setCell]; exact h.q0
  q1 := by rw [World.frozen?_setCell]; exact h.q1
  h0 := World.cell?_setCell_same' _ _ _ (by rw [h.h0]; rfl)
  h1 := by rw [World.cell?_setCell_other _ _ _ _ (by simp)]; exact h.h1
  f0 := by rw [World.frozen?_setCell]; exact h.f0
  f1 := by rw [World.frozen?_setCell]; exact h.f1
set_option maxRecDepth 100000 in
theorem MakeAt.set1 {w : World} {f : Nat → Bool} {x y : Int} {w' : World} (h : MakeAt w f x y w') (z : Int) : MakeAt w f x z (w'.setCell ⟨w.heap.size + 1 + 1, 1, none⟩ (.int .u64 z)) where
  below := h.below.setCell (by simp; omega) _
  size := by have := h.size; simpa [World.setCell] using this
  arr := h.arr.far _ (by simp; omega) _
  r0 := by rw [World.cell?_setCell_far _ _ _ _ (by simp)]; exact h.r0
  r1 := by rw [World.cell?_setCell_far _ _ _ _ (by simp)]; exact h.r1
  q0 := by rw [World.frozen?_setCell]; exact h.q0
  q1 := by rw [World.frozen?_setCell]; exact h.q1
  h0 := by rw [World.cell?_setCell_other _ _ _ _ (by simp)]; exact h.h0
  h1 := World.cell?_setCell_same' _ _ _ (by rw [h.h1]; rfl)
  f0 := by rw [World.frozen?_setCell]; exact h.f0
  f1 := by rw [World.frozen?_setCell]; exact h.f1

set_option maxRecDepth 100000 in
set_option maxHeartbeats 1000000 in
theorem make_any (f : Nat → Bool) (w : World) :
    Calls Tryz.prog 183 #[.agg (bitsA f)] w (RetV (ofBits f) w) := by
  go_enter Tryz.func183, Tryz.ntmps183
  go_wp2
  go_loopw [4] (fun i w' => ∃ k : Nat, k ≤ 64 ∧ i = .int .i64 k ∧ MakeAt w f (hi (mk f k)) (lo (mk f k)) w') (fun i _ => 64 - (intOf i).toNat)
  case atStart =>
    refine ⟨0, by omega, rfl, ((((Below.refl _ _).alloc (by simp) _).alloc (by simp) _).alloc (by simp; omega) _), by simp, ?_, by simp [go_sem], by simp [go_sem], by simp [go_sem], by simp [go_sem], ?_, ?_, by simp [go_sem], by simp [go_sem]⟩
    · exact ((BitsAt.new w f _).past (by simp) _).past (by simp; omega) _
    · rw [mk_0]; simp [go_sem, hi]
    · rw [mk_0]; simp [go_sem, lo]
  case round =>
    obtain ⟨k, hk, rfl, hR⟩ := hrel
    by_cases hlt : (k : Int) < 64
    · have hk' : k < 64 := by omega
      have c0 := hR.h0
      have c1 := hR.h1
      have g0 := hR.f0
      have g1 := hR.f1
      have i0 : wr.cell? ⟨w.heap.size, k, none⟩ = some _ := hR.arr.cell k (by omega)
      have i1 : wr.cell? ⟨w.heap.size, k + 64, none⟩ = some _ := hR.arr.cell (k + 64) (by omega)
      cases h0 : f k <;> cases h1 : f (k + 64)
      all_goals
        rw [h0] at i0
        rw [h1] at i1
        have H0 := Lib.hid h0
        have H1 := Lib.hid h1
        clear h0 h1
        go_wp2
        go_roundw
      all_goals go_light
      all_goals try (case measure => simp [intOf]; omega)
      all_goals refine ⟨k + 1, by omega, by simp, ?_⟩
      all_goals try rw [wrap_pow k hk']
      · rw [← mk_lo_no f k hk' H0.out, ← mk_hi_no f k hk' H1.out]
        exact hR
      · rw [← mk_lo_no f k hk' H0.out, ← mk_hi_yes f k hk' H1.out]
        exact hR.set0 _
      · rw [← mk_lo_yes f k hk' H0.out, ← mk_hi_no f k hk' H1.out]
        exact hR.set1 _
      · rw [← mk_lo_yes f k hk' H0.out, ← mk_hi_yes f k hk' H1.out]
        exact (hR.set1 _).set0 _
    · have e : k = 64 := by omega
      subst e
      have c0 := hR.h0
      have c1 := hR.h1
      have g0 := hR.q0
      have g1 := hR.q1
      have r0 := hR.r0
      have r1 := hR.r1
      go_wp2
      go_light
      rw [← mk_64]
      refine bodyPost_ret (v := .agg #[.int .u64 (hi (mk f 64)), .int .u64 (lo (mk f 64))]) (by simp [results, Tryz.results183, go_sem, r0, r1]) rfl ⟨rfl, ?_⟩
      exact (hR.below.setCell (by simp) _).setCell (by simp) _
end
/- matchguardref01: clamp, Ones, Leading, Not, Left, Right: what they return. -/
section
open Go.RowKit

set_option maxRecDepth 100000 in
theorem cl_int (n : Int) : max 0 (min n 128) = (cl n : Int) := by unfold cl; omega
/-- An array of bits has been made in block x; block r is the result's. -/
structure OneAt (w : World) (r x : Nat) (f : Nat → Bool) (w' : World) : Prop where
  below : Below w.heap.size w w'
  nr : w.heap.size ≤ r
  nx : w.heap.size ≤ x
  ne : r ≠ x
  lr : r < w'.heap.size
  lx : x < w'.heap.size
  arr : BitsAt w' x f
  r0 : w'.cell? ⟨r, 0, none⟩ = some (.int .u64 0)
  r1 : w'.cell? ⟨r, 1, none⟩ = some (.int .u64 0)
  q0 : w'.frozen? ⟨r, 0, none⟩ = false
  q1 : w'.frozen? ⟨r, 1, none⟩ = false
set_option maxRecDepth 100000 in
theorem OneAt.put {w : World} {r x : Nat} {f f' : Nat → Bool} {W : World} (h : OneAt w r x f W) (k : Nat) (hk : k < 128) (v : Bool) (hg : ∀ i, i < 128 → f' i = if i = k then v else f i) : OneAt w r x f' (W.setCell ⟨x, k, none⟩ (.bool v)) where
  below := h.below.setCell h.nx _
  nr := h.nr
  nx := h.nx
  ne := h.ne
  lr := by have := h.lr; simpa [World.setCell] using this
  lx := by have := h.lx; simpa [World.setCell] using this
  arr := h.arr.put k hk v hg
  r0 := by rw [World.cell?_setCell_far _ _ _ _ (fun e => h.ne e.symm)]; exact h.r0
  r1 := by rw [World.cell?_setCell_far _ _ _ _ (fun e => h.ne e.symm)]; exact h.r1
  q0 := by rw [World.frozen?_setCell]; exact h.q0
  q1 := by rw [World.frozen?_setCell]; exact h.q1
set_option maxRecDepth 100000 in
theorem OneAt.congr {w : World} {r x : Nat} {f f' : Nat → Bool} {W : World} (h : OneAt w r x f W) (hf : ∀ i, i < 128 → f i = f' i) : OneAt w r x f' W :=
  { h with arr := h.arr.congr hf }
set_option maxRecDepth 100000 in
theorem OneAt.after {w : World} {r x : Nat} {f : Nat → Bool} {W W' : World} (h : OneAt w r x f W) (hx : Below W.heap.size W W') :
    W'.cell? ⟨r, 0, none⟩ = some (.int .u64 0) ∧ W'.cell? ⟨r, 1, none⟩ = some (.int .u64 0) ∧ W'.frozen? ⟨r, 0, none⟩ = false ∧ W'.frozen? ⟨r, 1, none⟩ = false ∧ Below w.heap.size w W' :=
  ⟨by rw [hx.cell (p := ⟨_, _, none⟩) h.lr]; exact h.r0, by rw [hx.cell (p := ⟨_, _, none⟩) h.lr]; exact h.r1, by rw [hx.frozen (p := ⟨_, _, none⟩) h.lr]; exact h.q0, by rw [hx.frozen (p := ⟨_, _, none⟩) h.lr]; exact h.q1,
   h.below.trans (hx.mono h.below.size)⟩
set_option maxRecDepth 100000 in
theorem OneAt.first (w : World) (t : TypeId) (f : Nat → Bool) : OneAt w w.heap.size (w.heap.size + 1) f ((w.alloc (.cells #[.int .u64 0, .int .u64 0] t)).alloc (.cells (bitsA f) 237)) where
  below := ((Below.refl _ _).alloc (by simp) _).alloc (by simp) _
  nr := Nat.le_refl _
  nx := by omega
  ne := by omega
  lr := by simp; omega
  lx := by simp
  arr := by
    have := BitsAt.new (w.alloc (.cells #[.int .u64 0, .int .u64 0] t)) f 237
    simpa only [World.size_alloc] using this
  r0 := by simp [go_sem]
  r1 := by simp [go_sem]
  q0 := by simp [go_sem]
  q1 := by simp [go_sem]

set_option maxRecDepth 100000 in
theorem ones_of (k : Int) : ofBits (fun i => decide (i < cl k)) = ones k := by
  have hc := cl_le k
  refine ofBits_eq ?_ fun i hi => ?_
  · unfold ones
    have := Nat.pow_le_pow_right (n := 2) (by decide) hc
    have := Nat.two_pow_pos (cl k)
    omega
  · rw [ones, Nat.testBit_two_pow_sub_one]

set_option maxRecDepth 100000 in
theorem lead_of (k n : Int) : ofBits (fun i => decide (cl k - (min (max n 0) (cl k)).toNat ≤ i) && decide (i < cl k)) = lead k n := by
  have hc := cl_le k
  have e1 : cl (min (max k 0) 128) = cl k := by unfold cl; omega
  have e2 : cl (min (max k 0) 128 - min (max n 0) (min (max k 0) 128)) = cl k - (min (max n 0) (cl k)).toNat := by unfold cl; omega
  refine ofBits_eq ?_ fun i hi => ?_
  · unfold lead ones
    refine Nat.xor_lt_two_pow ?_ ?_
    · have := Nat.pow_le_pow_right (n := 2) (by decide) (cl_le (min (max k 0) 128))
      have := Nat.two_pow_pos (cl (min (max k 0) 128))
      omega
    · have := Nat.pow_le_pow_right (n := 2) (by decide) (cl_le (min (max k 0) 128 - min (max n 0) (min (max k 0) 128)))
      have := Nat.two_pow_pos (cl (min (max k 0) 128 - min (max n 0) (min (max k 0) 128)))
      omega
  · unfold lead ones
    rw [e1, e2, Nat.testBit_xor, Nat.testBit_two_pow_sub_one, Nat.testBit_two_pow_sub_one]
    by_cases h1 : i < cl k <;> by_cases h2 : i < cl k - (min (max n 0) (cl k)).toNat
    · have : ¬ (cl k - (min (max n 0) (cl k)).toNat ≤ i) := by omega
      simp [h1, h2, this]
    · have : cl k - (min (max n 0) (cl k)).toNat ≤ i := by omega
      simp [h1, h2, this]
    · omega
    · simp [h1, h2]

end
/- matchguardref01: Not, Left, Right: what they return. -/
section
open Go.RowKit

set_option maxRecDepth 100000 in
/-- A boxed value in block p; the result's block r; an array in block x. -/
theorem OneAt.box (w : World) (t : TypeId) (x y : Value) (W : World) (hx : Below (w.heap.size + 2) ((w.alloc (.cells #[x, y] t)).alloc (.cells #[.int .u64 0, .int .u64 0] t)) W) (f : Nat → Bool) :
    OneAt w (w.heap.size + 1) W.heap.size f (W.alloc (.cells (bitsA f) 237)) := by
  have hs := hx.size
  simp at hs
  exact {
    below := (((Below.refl _ _).alloc (by simp) _).alloc (by simp) _).trans ((hx.mono (by omega)).alloc (by omega) _)
    nr := by omega
    nx := by omega
    ne := by omega
    lr := by simp; omega
    lx := by simp
    arr := BitsAt.new W f _
    r0 := by rw [World.cell?_alloc_past _ _ _ (by omega), hx.cell (p := ⟨_, _, none⟩) (by simp)]; simp [go_sem]
    r1 := by rw [World.cell?_alloc_past _ _ _ (by omega), hx.cell (p := ⟨_, _, none⟩) (by simp)]; simp [go_sem]
    q0 := by rw [World.frozen?_alloc_past _ _ _ (by omega), hx.frozen (p := ⟨_, _, none⟩) (by simp)]; simp [go_sem]
    q1 := by rw [World.frozen?_alloc_past _ _ _ (by omega), hx.frozen (p := ⟨_, _, none⟩) (by simp)]; simp [go_sem] }

set_option maxRecDepth 100000 in
theorem not_of (a : Nat) (k : Int) : ofBits (fun i => if i < 128 then decide (i < cl k) && !a.testBit i else a.testBit i) = ones k &&& compl a := by
  have hc := cl_le k
  refine ofBits_eq ?_ fun i hi => ?_
  · refine Nat.lt_of_le_of_lt Nat.and_le_left ?_
    unfold ones
    have := Nat.pow_le_pow_right (n := 2) (by decide) hc
    have := Nat.two_pow_pos (cl k)
    omega
  · rw [if_pos hi, Nat.testBit_and, ones, Nat.testBit_two_pow_sub_one, testBit_compl]
    simp [hi]
set_option maxRecDepth 100000 in
theorem step_if' (f h : Nat → Bool) (k i : Nat) : (if i < k + 1 then h i else f i) = if i = k then h k else (if i < k then h i else f i) := by
  by_cases e : i = k
  · subst e; simp
  · rw [if_neg e]
    by_cases h' : i < k
    · rw [if_pos h', if_pos (by omega)]
    · rw [if_neg h', if_neg (by omega)]

set_option maxRecDepth 100000 in
theorem OneAt.box2 (w : World) (t : TypeId) (x y : Value) (W : World) (hx : Below (w.heap.size + 2) ((w.alloc (.cells #[x, y] t)).alloc (.cells #[.int .u64 0, .int .u64 0] t)) W) (f : Nat → Bool) :
    OneAt w (w.heap.size + 1) (W.heap.size + 1) (fun _ => false) ((W.alloc (.cells (bitsA f) 237)).alloc (.cells (bitsA fun _ => false) 237)) := by
  have hs := hx.size
  simp at hs
  exact {
    below := (((Below.refl _ _).alloc (by simp) _).alloc (by simp) _).trans (((hx.mono (by omega)).alloc (by omega) _).alloc (by simp; omega) _)
    nr := by omega
    nx := by omega
    ne := by omega
    lr := by simp; omega
    lx := by simp
    arr := by
      have := BitsAt.new (W.alloc (.cells (bitsA f) 237)) (fun _ => false) 237
      simpa only [World.size_alloc] using this
    r0 := by rw [World.cell?_alloc_past _ _ _ (by simp; omega), World.cell?_alloc_past _ _ _ (by omega), hx.cell (p := ⟨_, _, none⟩) (by simp)]; simp [go_sem]
    r1 := by rw [World.cell?_alloc_past _ _ _ (by simp; omega), World.cell?_alloc_past _ _ _ (by omega), hx.cell (p := ⟨_, _, none⟩) (by simp)]; simp [go_sem]
    q0 := by rw [World.frozen?_alloc_past _ _ _ (by simp; omega), World.frozen?_alloc_past _ _ _ (by omega), hx.frozen (p := ⟨_, _, none⟩) (by simp)]; simp [go_sem]
    q1 := by rw [World.frozen?_alloc_past _ _ _ (by simp; omega), World.frozen?_alloc_past _ _ _ (by omega), hx.frozen (p := ⟨_, _, none⟩) (by simp)]; simp [go_sem] }
set_option maxRecDepth 100000 in
theorem BitsAt.src (W : World) (f : Nat → Bool) : BitsAt ((W.alloc (.cells (bitsA f) 237)).alloc (.cells (bitsA fun _ => false) 237)) W.heap.size f :=
  (BitsAt.new W f _).past (by simp) _

set_option maxRecDepth 100000 in
theorem vleft_cl (a : Nat) (n : Int) : vleft a (cl n) = vleft a n.toNat := by
  unfold vleft
  by_cases h : n ≤ 128
  · have : cl n = n.toNat := by unfold cl; omega
    rw [this]
  · have e : cl n = 128 := by unfold cl; omega
    obtain ⟨k, hk⟩ : ∃ k, n.toNat = 128 + k := ⟨n.toNat - 128, by omega⟩
    rw [e, hk, Nat.pow_add, ← Nat.mul_assoc, Nat.mul_mod_left, Nat.mul_right_comm, Nat.mul_mod_left]
set_option maxRecDepth 100000 in
theorem right_cl (a : Nat) (n : Int) (ha : a < 2 ^ 128) : a / 2 ^ cl n = a / 2 ^ n.toNat := by
  by_cases h : n ≤ 128
  · have : cl n = n.toNat := by unfold cl; omega
    rw [this]
  · have e : cl n = 128 := by unfold cl; omega
    rw [e, Nat.div_eq_of_lt ha, Nat.div_eq_of_lt (Nat.lt_of_lt_of_le ha (Nat.pow_le_pow_right (by decide) (by omega)))]
set_option maxRecDepth 100000 in
theorem left_of (a : Nat) (n : Int) (_ha : a < 2 ^ 128) : ofBits (fun i => decide (cl n ≤ i) && decide (i < 128) && a.testBit (i - cl n)) = vleft a n.toNat := by
  rw [← vleft_cl]
  refine ofBits_eq (Nat.mod_lt _ (by decide)) fun i hi => ?_
  rw [vleft, Nat.testBit_mod_two_pow, Nat.testBit_mul_two_pow]
  simp [hi]
set_option maxRecDepth 100000 in
theorem rright_of (a : Nat) (n : Int) (ha : a < 2 ^ 128) : ofBits (fun i => decide (i + cl n < 128) && a.testBit (i + cl n)) = a / 2 ^ n.toNat := by
  rw [← right_cl a n ha]
  refine ofBits_eq (Nat.lt_of_le_of_lt (Nat.div_le_self _ _) ha) fun i hi => ?_
  rw [Nat.testBit_div_two_pow]
  by_cases h : i + cl n < 128
  · simp [h]
  · have := Nat.testBit_lt_two_pow (x := a) (i := i + cl n) (Nat.lt_of_lt_of_le ha (Nat.pow_le_pow_right (by decide) (by omega)))
    simp [h, this]

end
/- matchguardref01: Bit, Len, Fits: what they return. -/
section
open Go.RowKit

set_option maxRecDepth 100000 in
theorem index_bits (f : Nat → Bool) (i : Nat) (h : i < 128) (w : World) :
    (Instr.index 237 (.agg (bitsA f)) (.int .i64 (i : Int))).run Tryz.prog w = .ok (.bool (f i)) w := by
  have hs : (sizeOf 4).run Tryz.prog w = .ok 1 w := by kernel_rfl
  have ha : (isAgg 4).run Tryz.prog w = .ok false w := by kernel_rfl
  have hi : (0 : Int) ≤ (i : Int) ∧ (i : Int) < ((128 : Nat) : Int) := by omega
  simp only [Instr.index, asIntOf, Sem.run_bind, Sem.run_pure, Result.andThen, run_underlying Tryz.underlying237]
  rw [if_pos hi]
  simp only [part, Sem.run_bind, ha, hs, Result.andThen, Int.toNat_natCast, Nat.mul_one, bitsA_get f i h]
  rfl

set_option maxRecDepth 100000 in
theorem bit_off (a : Nat) (n : Int) (ha : a < 2 ^ 128) (h : ¬ (0 ≤ n ∧ n < 128)) : (decide (0 ≤ n) && a.testBit n.toNat) = false := by
  by_cases h0 : 0 ≤ n
  · have := Nat.testBit_lt_two_pow (x := a) (i := n.toNat) (Nat.lt_of_lt_of_le ha (Nat.pow_le_pow_right (by decide) (by omega)))
    simp [this]
  · simp [h0]
set_option maxRecDepth 100000 in
theorem bitLen_at (a k : Nat) (h : a.testBit k = true) (hall : ∀ i, k < i → a.testBit i = false) : bitLen a = k + 1 := by
  have h1 : 2 ^ k ≤ a := Nat.ge_two_pow_of_testBit h
  have h2 : a < 2 ^ (k + 1) := Nat.lt_pow_two_of_testBit _ fun i hi => hall i (by omega)
  have h0 : a ≠ 0 := by have := Nat.two_pow_pos k; omega
  unfold bitLen
  rw [if_neg h0, (Nat.log2_eq_iff h0).2 ⟨h1, h2⟩]
set_option maxRecDepth 100000 in
theorem bitLen_none (a : Nat) (hall : ∀ i, a.testBit i = false) : bitLen a = 0 := by
  have : a = 0 := Nat.eq_of_testBit_eq fun i => by rw [hall i]; simp
  subst this
  rfl
/-- Where the search for the highest bit is: all bits from k on are 0. -/
structure LenAt (w : World) (a k : Nat) (w' : World) : Prop where
  below : Below w.heap.size w w'
  size : w.heap.size + 1 ≤ w'.heap.size
  c0 : w'.cell? ⟨w.heap.size, 0, none⟩ = some (.int .u64 (hi a))
  c1 : w'.cell? ⟨w.heap.size, 1, none⟩ = some (.int .u64 (lo a))
  none : ∀ i, k ≤ i → a.testBit i = false

end
end Go.Proofs.YtldgjahpmlafgaaGreat
