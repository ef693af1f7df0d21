/- Contracts, joined: NNum, NNum2, NNum3, NNum4, NNum5, NCmp, NVal. -/
import Derived.Test.YtodmkmoglchoeaaDoorNPure
import Derived.Test.YtodmkmoglchoeaaDoorJBits
import Derived.Deep.AppendLies
import Derived.Laws.StructEq
import Derived.ChangeKeysEq
import Derived.Deep.DeepCutAuto
namespace Go.Proofs.YtodmkmoglchoeaaDoor
/- Package number: what its functions return, modulo 2^192. -/
section
open Go.RowKit

/-- the words of z, as cells -/
def wV (z : Int) (i : Nat) : Value := .int .u32 (wd z i)
/-- the Number of z: only what z is modulo 2^192 -/
def nV (z : Int) : Value := .agg (rowA 6 (wV z))
theorem nV_def (z : Int) : nV z = .agg (rowA 6 (wV z)) := rfl
theorem nV_mod (z : Int) : nV (z % pw 6) = nV z := by
  unfold nV
  exact congrArg _ (rowA_congr fun i hi => by unfold wV; rw [wd_mod z i hi])
theorem nV_words {a b : Int} (h : nV a = nV b) : ∀ k, k < 6 → wd a k = wd b k := by
  intro k hk
  unfold nV at h
  injection h with h
  have h2 := congrArg (fun x : Array Value => x[k]?) h
  simp only [rowA_get 6 _ k hk] at h2
  injection h2 with h2
  unfold wV at h2
  injection h2
theorem nV_inj {a b : Int} (ha : Rg a) (hb : Rg b) (h : nV a = nV b) : a = b := words_inj ha hb (nV_words h)
/-- The call returns the Number of z; nothing that there was is changed. -/
def RetN (z : Int) (w : World) (e : Ending) (w' : World) : Prop := e = .returned (.agg #[.int .u32 (wd z 0), .int .u32 (wd z 1), .int .u32 (wd z 2), .int .u32 (wd z 3), .int .u32 (wd z 4), .int .u32 (wd z 5)]) ∧ Below w.heap.size w w'
theorem nV_lit (z : Int) : nV z = .agg #[.int .u32 (wd z 0), .int .u32 (wd z 1), .int .u32 (wd z 2), .int .u32 (wd z 3), .int .u32 (wd z 4), .int .u32 (wd z 5)] := rfl

set_option maxRecDepth 100000 in
theorem zero_num (w : World) : (zeroValue 174).run Tryd.prog w = .ok (.agg (rowA 6 fun _ => .int .u32 0)) w := by kernel_rfl
set_option maxRecDepth 100000 in
theorem info_num : (Tryd.prog.info? 174).map (·.size) = some 6 := by kernel_rfl
theorem wV_one (z : Int) : ∀ i, i < 6 → (wV z i).oneCell' = true := fun _ _ => rfl

/-! a whole number: loaded, stored, handed back -/
section
variable {w : World} {b : Nat} {f : Nat → Value}
set_option maxRecDepth 100000 in
theorem wpList_load_num {ops : Array Oper} {rest : List Oper} {op : Oper} {a : Act} {Q : Exit → Act → World → Prop} (hgd : op.guard = none) {x : Operand} (ho : op.op = .load 174 x)
    (hx : a.eval x = .pointer (some ⟨b, 0, none⟩)) (h : RowAt w b 6 f) (K : wpList Tryd.prog ops Q rest (a.put op.dst (.agg (rowA 6 f))) w) : wpList Tryd.prog ops Q (op :: rest) a w :=
  wpList_load_mid hgd 174 x ho b 0 hx (rowL 6 f) _ h.range Tryd.underlying174 rfl (by rw [rowL_len]; exact info_num) K
set_option maxRecDepth 100000 in
theorem wpList_store_num (h1 : ∀ i, i < 6 → (f i).oneCell' = true)
    {ops : Array Oper} {rest : List Oper} {op : Oper} {a : Act} {Q : Exit → Act → World → Prop} (hgd : op.guard = none) {x y : Operand} (ho : op.op = .store 174 x y)
    (hx : a.eval x = .pointer (some ⟨b, 0, none⟩)) (hy : a.eval y = .agg (rowA 6 f)) (h : w.there b 0 6) (K : wpList Tryd.prog ops Q rest (a.put op.dst undef) (w.setCells b 0 (rowL 6 f))) : wpList Tryd.prog ops Q (op :: rest) a w :=
  wpList_store_row info_num h1 hgd ho hx hy h K
set_option maxRecDepth 100000 in
theorem loadAt_num (h : RowAt w b 6 f) : (Instr.loadAt 174 (.pointer (some ⟨b, 0, none⟩))).run Tryd.prog w = .ok (.agg (rowA 6 f)) w :=
  run_loadAt_mid w b 0 174 (rowL 6 f) _ h.range Tryd.underlying174 rfl (by rw [rowL_len]; exact info_num)
set_option maxRecDepth 100000 in
theorem loadVar_num (h : RowAt w b 6 f) : (loadVar 174 ⟨b, 0, none⟩).run Tryd.prog w = .ok (.agg (rowA 6 f)) w :=
  run_loadVar_mid w b 0 174 (rowL 6 f) _ h.range Tryd.underlying174 rfl (by rw [rowL_len]; exact info_num)
set_option maxRecDepth 100000 in
theorem storeAt_num (h1 : ∀ i, i < 6 → (f i).oneCell' = true) (h : w.there b 0 6) : (Instr.storeAt 174 (.pointer (some ⟨b, 0, none⟩)) (.agg (rowA 6 f))).run Tryd.prog w = .ok () (w.setCells b 0 (rowL 6 f)) := by
  have := run_storeAt_mid (P := Tryd.prog) w b 0 174 (rowA 6 f) (by rw [rowA_size]; exact h) (by rw [rowA_size]; exact info_num) (all_oneCell_toArray (rowL_one h1))
  simpa [rowA] using this
set_option maxRecDepth 100000 in
theorem results_num {fn : Func} {p : Tmp} (hr : fn.results = #[.cell p 174]) {tmps : Array Value} (hp : tmps[p]?.getD undef = .pointer (some ⟨b, 0, none⟩)) (h : RowAt w b 6 f) :
    (results fn tmps).run Tryd.prog w = .ok (.agg (rowA 6 f)) w := by
  have e := loadVar_num h
  simp only [results, hr]
  simp [hp, asAddr, e]
end

structure SumAt (w : World) (a b c : Int) (k : Nat) (w' : World) : Prop where
  below : Below w.heap.size w w'
  size : w.heap.size + 4 ≤ w'.heap.size
  ra : RowAt w' w.heap.size 6 (wV a)
  rb : RowAt w' (w.heap.size + 1) 6 (wV b)
  res : RowAt w' (w.heap.size + 2) 6 fun _ => .int .u32 0
  out : RowAt w' (w.heap.size + 3) 6 fun i => .int .u32 (if i < k then wd (a + b + c) i else 0)
theorem SumAt.drew {w w' : World} {a b c : Int} {k : Nat} (h : SumAt w a b c k w') : SumAt w a b c k w'.drew :=
  ⟨h.below.drew, h.size, h.ra.drew, h.rb.drew, h.res.drew, h.out.drew⟩
theorem SumAt.drewN {w w' : World} {a b c : Int} {k n : Nat} (h : SumAt w a b c k w') : SumAt w a b c k (w'.drewN n) := by
  induction n with
  | zero => exact h
  | succ n ih => exact ih.drew
theorem put_if (f : Nat → Int) (k i : Nat) : (Value.int .u32 (if i < k + 1 then f i else 0)) = if i = k then .int .u32 (f k) else .int .u32 (if i < k then f i else 0) := by
  by_cases h : i = k
  · subst h; simp
  · rw [if_neg h]
    by_cases h' : i < k
    · rw [if_pos h', if_pos (by omega)]
    · rw [if_neg h', if_neg (by omega)]
theorem SumAt.next {w w' : World} {a b c : Int} {k : Nat} (h : SumAt w a b c k w') (hk : k < 6) (x : Int) (hx : x = wd (a + b + c) k) :
    SumAt w a b c (k + 1) (w'.setCell ⟨w.heap.size + 3, k, none⟩ (.int .u32 x)) := by
  subst hx
  exact ⟨h.below.setCell (by simp) _, by rw [World.size_setCell]; exact h.size, h.ra.far _ (by simp) _, h.rb.far _ (by simp) _, h.res.far _ (by simp) _, h.out.put k hk _ (fun i _ => put_if _ k i)⟩

set_option maxRecDepth 100000 in
set_option maxHeartbeats 1000000 in
theorem nn_sum (a b c : Int) (h0 : 0 ≤ c) (h1 : c ≤ 1) (w : World) :
    Calls Tryd.prog 90 #[nV a, nV b, .int .u64 c] w (RetN (a + b + c) w) := by
  rw [nV_def, nV_def]
  have C0 := Lib.hid (cy_0 a b c)
  go_enter Tryd.func90, Tryd.ntmps90
  go_wp2_with (simp only [zero_num])
  go_loopw [2, 9] (fun t i w' => ∃ k : Nat, k ≤ 6 ∧ i = .int .i64 k ∧ t = .int .u64 (cy a b c k) ∧ SumAt w a b c k w') (fun _ i _ => 6 - (intOf i).toNat)
  case atStart =>
    have z : #[Value.int IntKind.u32 0, .int .u32 0, .int .u32 0, .int .u32 0, .int .u32 0, .int .u32 0] = rowA 6 fun _ => .int .u32 0 := rfl
    refine ⟨0, by omega, rfl, by rw [C0.out], ?_⟩
    rw [z]
    have h0 := RowAt.new w 6 (wV a) 174
    have h1 := RowAt.new (w.alloc (.cells (rowA 6 (wV a)) 174)) 6 (wV b) 174
    have h2 := RowAt.new ((w.alloc (.cells (rowA 6 (wV a)) 174)).alloc (.cells (rowA 6 (wV b)) 174)) 6 (fun _ => .int .u32 0) 174
    have h3 := RowAt.new (((w.alloc (.cells (rowA 6 (wV a)) 174)).alloc (.cells (rowA 6 (wV b)) 174)).alloc (.cells (rowA 6 fun _ => .int .u32 0) 174)) 6 (fun _ => .int .u32 0) 174
    simp only [World.size_alloc] at h1 h2 h3
    exact ⟨((((Below.refl _ _).alloc (by simp) _).alloc (by simp) _).alloc (by simp; try omega) _).alloc (by simp; try omega) _, by simp,
      ((h0.past (by simp) _).past (by simp; try omega) _).past (by simp; try omega) _, (h1.past (by simp) _).past (by simp; try omega) _, h2.past (by simp; try omega) _, RowAt.congr (f := fun _ => .int .u32 0) h3 (fun i _ => by simp)⟩
  case round =>
    obtain ⟨k, hk, rfl, rfl, hR⟩ := hrel
    have b0 := cy_b a b c h0 h1 k
    by_cases hlt : (k : Int) < 6
    · have i0 : wr.cell? ⟨w.heap.size, k, none⟩ = some (.int .u32 (wd a k)) := hR.ra.cell k (by omega)
      have i1 : wr.cell? ⟨w.heap.size + 1, k, none⟩ = some (.int .u32 (wd b k)) := hR.rb.cell k (by omega)
      have i2 : wr.cell? ⟨w.heap.size + 3, k, none⟩ = some _ := hR.out.cell k (by omega)
      have i3 : wr.frozen? ⟨w.heap.size + 3, k, none⟩ = false := hR.out.froz k (by omega)
      have w0 := wd_0 a k
      have w1 := wd_1 a k
      have w2 := wd_0 b k
      have w3 := wd_1 b k
      go_wp2_with fail
      go_quiet (fail)
      go_wp2
      go_roundw
      case rel =>
        go_light
        exact ⟨k + 1, by omega, by simp, by rw [cy_succ], hR.drewN.next (by omega) _ (by rw [wd_sum])⟩
      case measure => simp [intOf]; omega
    · have e : k = 6 := by omega
      subst e
      go_wp2_with (first | refine wpList_load_num rfl rfl rfl hR.out ?_ | refine wpList_store_num (fun _ _ => rfl) rfl rfl rfl rfl hR.res.there ?_)
      go_light
      have hB := RowAt.stored hR.res.there fun i => Value.int IntKind.u32 (if i < 6 then wd (a + b + c) i else 0)
      have e : (rowA 6 fun i => Value.int IntKind.u32 (if i < 6 then wd (a + b + c) i else 0)) = rowA 6 (wV (a + b + c)) := rowA_congr fun i hi => by rw [if_pos hi]; rfl
      refine bodyPost_ret (v := nV (a + b + c)) (by rw [nV_def, ← e]; exact results_num rfl rfl hB) rfl ⟨rfl, ?_⟩
      exact belowCells hR.below (by omega) _ _
end
/- Package number: complement, extend, divide, Of, From. -/
section
open Go.RowKit

set_option maxRecDepth 100000 in
theorem info_six : (Tryd.prog.info? 171).map (·.size) = some 6 := by kernel_rfl
set_option maxRecDepth 100000 in
theorem wpList_load_six {w : World} {b : Nat} {f : Nat → Value} {ops : Array Oper} {rest : List Oper} {op : Oper} {a : Act} {Q : Exit → Act → World → Prop} (hgd : op.guard = none) {x : Operand} (ho : op.op = .load 171 x)
    (hx : a.eval x = .pointer (some ⟨b, 0, none⟩)) (h : RowAt w b 6 f) (K : wpList Tryd.prog ops Q rest (a.put op.dst (.agg (rowA 6 f))) w) : wpList Tryd.prog ops Q (op :: rest) a w :=
  wpList_load_row Tryd.underlying171 info_six hgd ho hx h K
set_option maxRecDepth 100000 in
theorem index_six (f : Nat → Value) (i : Nat) (h : i < 6) (w : World) :
    (Instr.index 171 (.agg (rowA 6 f)) (.int .i64 (i : Int))).run Tryd.prog w = .ok (f i) w := by
  have hs : (sizeOf 170).run Tryd.prog w = .ok 1 w := by kernel_rfl
  have ha : (isAgg 170).run Tryd.prog w = .ok false w := by kernel_rfl
  have hi : (0 : Int) ≤ (i : Int) ∧ (i : Int) < ((6 : Nat) : Int) := by omega
  simp only [Instr.index, asIntOf, Sem.run_bind, Sem.run_pure, Result.andThen, run_underlying Tryd.underlying171]
  rw [if_pos hi]
  simp only [part, Sem.run_bind, ha, hs, Result.andThen, Int.toNat_natCast, Nat.mul_one, rowA_get 6 f i h]
  rfl

theorem not_u32 (x : Int) (h0 : 0 ≤ x) (h1 : x < 4294967296) : bits .xor .u32 (if IntKind.u32.signed = true then -1 else IntKind.u32.max) x = 4294967295 - x := by
  obtain ⟨n, rfl⟩ := Int.eq_ofNat_of_zero_le h0
  have hn : n < 4294967296 := by omega
  have e : (if IntKind.u32.signed = true then -1 else IntKind.u32.max) = ((4294967295 : Nat) : Int) := rfl
  rw [e, u32_xor_nat _ _ (by decide) hn]
  have h := BitVec.toNat_not (x := BitVec.ofNat 32 n)
  rw [BitVec.not_def, BitVec.toNat_xor, BitVec.toNat_ofNat, BitVec.toNat_allOnes, Nat.mod_eq_of_lt (by omega)] at h
  have h2 : 4294967295 ^^^ n = 4294967295 - n := h
  rw [h2]; omega
theorem or_u64 (r x : Int) (h0 : 0 ≤ r) (h1 : r < 4294967296) (x0 : 0 ≤ x) (x1 : x < 4294967296) : bits .or .u64 (r * 4294967296) x = r * 4294967296 + x := by
  obtain ⟨a, rfl⟩ := Int.eq_ofNat_of_zero_le h0
  obtain ⟨b, rfl⟩ := Int.eq_ofNat_of_zero_le x0
  have e : (a : Int) * 4294967296 = ((a * 4294967296 : Nat) : Int) := by omega
  rw [e, u64_or_nat _ _ (by omega) (by omega)]
  have h := Nat.shiftLeft_add_eq_or_of_lt (i := 32) (b := b) (by omega) a
  rw [Nat.shiftLeft_eq] at h
  have h2 : a * 4294967296 + b = a * 4294967296 ||| b := h
  rw [← h2]; omega
/-- a number in a box whose words up to k have turned from f into g, and a result -/
structure TurnAt (w : World) (f g : Nat → Int) (k : Nat) (w' : World) : Prop where
  below : Below w.heap.size w w'
  size : w.heap.size + 2 ≤ w'.heap.size
  res : RowAt w' (w.heap.size + 1) 6 fun _ => .int .u32 0
  out : RowAt w' w.heap.size 6 fun i => .int .u32 (if i < k then g i else f i)
theorem TurnAt.drew {w w' : World} {f g : Nat → Int} {k : Nat} (h : TurnAt w f g k w') : TurnAt w f g k w'.drew :=
  ⟨h.below.drew, h.size, h.res.drew, h.out.drew⟩
theorem TurnAt.drewN {w w' : World} {f g : Nat → Int} {k n : Nat} (h : TurnAt w f g k w') : TurnAt w f g k (w'.drewN n) := by
  induction n with
  | zero => exact h
  | succ n ih => exact ih.drew
theorem turn_if (f g : Nat → Int) (k i : Nat) : (Value.int .u32 (if i < k + 1 then g i else f i)) = if i = k then .int .u32 (g k) else .int .u32 (if i < k then g i else f i) := by
  by_cases h : i = k
  · subst h; simp
  · rw [if_neg h]
    by_cases h' : i < k
    · rw [if_pos h', if_pos (by omega)]
    · rw [if_neg h', if_neg (by omega)]
theorem TurnAt.next {w w' : World} {f g : Nat → Int} {k : Nat} (h : TurnAt w f g k w') (hk : k < 6) (x : Int) (hx : x = g k) :
    TurnAt w f g (k + 1) (w'.setCell ⟨w.heap.size, k, none⟩ (.int .u32 x)) := by
  subst hx
  exact ⟨h.below.setCell (by simp) _, by rw [World.size_setCell]; exact h.size, h.res.far _ (by simp) _, h.out.put k hk _ (fun i _ => turn_if f g k i)⟩
theorem TurnAt.begun (w : World) (z : Int) (g : Nat → Int) : TurnAt w (wd z) g 0 ((w.alloc (.cells (rowA 6 (wV z)) 174)).alloc (.cells #[.int .u32 0, .int .u32 0, .int .u32 0, .int .u32 0, .int .u32 0, .int .u32 0] 174)) := by
  have z0 : #[Value.int IntKind.u32 0, .int .u32 0, .int .u32 0, .int .u32 0, .int .u32 0, .int .u32 0] = rowA 6 fun _ => .int .u32 0 := rfl
  rw [z0]
  have h0 := RowAt.new w 6 (wV z) 174
  have h1 := RowAt.new (w.alloc (.cells (rowA 6 (wV z)) 174)) 6 (fun _ => .int .u32 0) 174
  simp only [World.size_alloc] at h1
  exact ⟨((Below.refl _ _).alloc (by simp) _).alloc (by simp) _, by simp, h1, RowAt.congr (f := wV z) (h0.past (by simp) _) (fun i _ => by simp [wV])⟩
theorem TurnAt.first {w w' : World} {g : Nat → Int} {z : Int} (h : TurnAt w (wd z) g 0 w') : RowAt w' w.heap.size 6 (wV z) :=
  RowAt.congr h.out fun i _ => by simp [wV]
theorem TurnAt.done {w w' : World} {f g : Nat → Int} (h : TurnAt w f g 6 w') : RowAt w' w.heap.size 6 (fun i => .int .u32 (g i)) :=
  h.out.congr fun i hi => by rw [if_pos hi]

set_option maxRecDepth 100000 in
set_option maxHeartbeats 1000000 in
theorem nn_not (a : Int) (w : World) :
    Calls Tryd.prog 91 #[nV a] w (RetN (-a - 1) w) := by
  rw [nV_def]
  go_enter Tryd.func91, Tryd.ntmps91
  go_wp2_with (first | simp only [zero_num] | refine wpList_load_six rfl rfl rfl (TurnAt.begun w a (wd a)).first ?_)
  go_loopw [7] (fun i w' => ∃ k : Nat, k ≤ 6 ∧ i = .int .i64 k ∧ TurnAt w (wd a) (wd (-a - 1)) k w') (fun i _ => 6 - (intOf i).toNat)
  case atStart => exact ⟨0, by omega, rfl, TurnAt.begun w a _⟩
  case round =>
    obtain ⟨k, hk, rfl, hR⟩ := hrel
    by_cases hlt : (k : Int) < 6
    · have i2 : wr.cell? ⟨w.heap.size, k, none⟩ = some _ := hR.out.cell k (by omega)
      have i3 : wr.frozen? ⟨w.heap.size, k, none⟩ = false := hR.out.froz k (by omega)
      have w0 := wd_0 a k
      have w1 := wd_1 a k
      go_wp2_with (simp only [index_six (wV a) k (by omega), wV])
      go_roundw
      case rel =>
        go_light
        exact ⟨k + 1, by omega, by simp, hR.next (by omega) _ (by rw [wd_not, not_u32 _ w0 w1])⟩
      case measure => simp [intOf]; omega
    · have e : k = 6 := by omega
      subst e
      go_wp2_with (first | refine wpList_load_num rfl rfl rfl hR.done ?_ | refine wpList_store_num (fun _ _ => rfl) rfl rfl rfl rfl hR.res.there ?_)
      go_light
      have hB := RowAt.stored hR.res.there (wV (-a - 1))
      refine bodyPost_ret (v := nV (-a - 1)) (by exact results_num rfl rfl hB) rfl ⟨rfl, ?_⟩
      exact belowCells hR.below (by omega) _ _

set_option maxRecDepth 100000 in
set_option maxHeartbeats 1000000 in
theorem nn_ext (a m d : Int) (hm : m ≤ 16) (h0 : 0 ≤ d) (h1 : d < m) (w : World) :
    Calls Tryd.prog 97 #[nV a, .int .u32 m, .int .u32 d] w (RetN (a * m + d) w) := by
  rw [nV_def]
  have C0 := Lib.hid (ce_0 a m d)
  go_enter Tryd.func97, Tryd.ntmps97
  go_wp2_with (first | simp only [zero_num] | refine wpList_load_six rfl rfl rfl (TurnAt.begun w a (wd a)).first ?_)
  go_loopw [7, 14] (fun t i w' => ∃ k : Nat, k ≤ 6 ∧ i = .int .i64 k ∧ t = .int .u64 (ce a m d k) ∧ TurnAt w (wd a) (wd (a * m + d)) k w') (fun _ i _ => 6 - (intOf i).toNat)
  case atStart => exact ⟨0, by omega, rfl, by rw [C0.out], TurnAt.begun w a _⟩
  case round =>
    obtain ⟨k, hk, rfl, rfl, hR⟩ := hrel
    have b0 := ce_b a m d hm h0 h1 k
    by_cases hlt : (k : Int) < 6
    · have i2 : wr.cell? ⟨w.heap.size, k, none⟩ = some _ := hR.out.cell k (by omega)
      have i3 : wr.frozen? ⟨w.heap.size, k, none⟩ = false := hR.out.froz k (by omega)
      have w0 := wd_0 a k
      have w1 := wd_1 a k
      have p0 : 0 ≤ wd a k * m := Int.mul_nonneg w0 (by omega)
      have p1 : wd a k * m ≤ 4294967295 * 16 := Int.le_trans (Int.mul_le_mul_of_nonneg_right (by omega) (by omega)) (Int.mul_le_mul_of_nonneg_left hm (by decide))
      go_wp2_with (simp only [index_six (wV a) k (by omega), wV])
      go_roundw
      case rel =>
        go_light
        exact ⟨k + 1, by omega, by simp, by rw [ce_succ], hR.next (by omega) _ (by rw [wd_ext])⟩
      case measure => simp [intOf]; omega
    · have e : k = 6 := by omega
      subst e
      go_wp2_with (first | refine wpList_load_num rfl rfl rfl hR.done ?_ | refine wpList_store_num (fun _ _ => rfl) rfl rfl rfl rfl hR.res.there ?_)
      go_light
      have hB := RowAt.stored hR.res.there (wV (a * m + d))
      refine bodyPost_ret (v := nV (a * m + d)) (by exact results_num rfl rfl hB) rfl ⟨rfl, ?_⟩
      exact belowCells hR.below (by omega) _ _

/-- a number in a box whose words from k on have turned from f into g, and a result -/
structure DownAt (w : World) (f g : Nat → Int) (k : Nat) (w' : World) : Prop where
  below : Below w.heap.size w w'
  size : w.heap.size + 2 ≤ w'.heap.size
  res : RowAt w' (w.heap.size + 1) 6 fun _ => .int .u32 0
  out : RowAt w' w.heap.size 6 fun i => .int .u32 (if i < k then f i else g i)
theorem DownAt.next {w w' : World} {f g : Nat → Int} {k : Nat} (h : DownAt w f g (k + 1) w') (hk : k < 6) (x : Int) (hx : x = g k) :
    DownAt w f g k (w'.setCell ⟨w.heap.size, k, none⟩ (.int .u32 x)) := by
  subst hx
  refine ⟨h.below.setCell (by simp) _, by rw [World.size_setCell]; exact h.size, h.res.far _ (by simp) _, h.out.put k hk _ (fun i _ => ?_)⟩
  by_cases e : i = k
  · subst e; simp
  · rw [if_neg e]
    by_cases h' : i < k
    · rw [if_pos h', if_pos (by omega)]
    · rw [if_neg h', if_neg (by omega)]
theorem DownAt.begun (w : World) (z : Int) (g : Nat → Int) : DownAt w (wd z) g 6 ((w.alloc (.cells (rowA 6 (wV z)) 174)).alloc (.cells #[.int .u32 0, .int .u32 0, .int .u32 0, .int .u32 0, .int .u32 0, .int .u32 0] 174)) :=
  have h := TurnAt.begun w z (wd z)
  ⟨h.below, h.size, h.res, RowAt.congr h.out fun i hi => by simp [hi]⟩
theorem DownAt.done {w w' : World} {f g : Nat → Int} (h : DownAt w f g 0 w') : RowAt w' w.heap.size 6 (fun i => .int .u32 (g i)) :=
  h.out.congr fun i hi => by rw [if_neg (by omega)]
theorem rs_6 (u m : Int) (h0 : 0 ≤ u) (h1 : u < pw 6) : rs u m 6 = 0 := by
  unfold rs; rw [Int.ediv_eq_zero_of_lt h0 h1]; exact Int.zero_emod m
theorem rs_0 (u m : Int) : rs u m 0 = u % m := by unfold rs; rw [pw_0, Int.ediv_one]
/-- The call returns the Number of z and the rest d. -/
def RetNR (z d : Int) (w : World) (e : Ending) (w' : World) : Prop := e = .returned (.tuple #[.agg #[.int .u32 (wd z 0), .int .u32 (wd z 1), .int .u32 (wd z 2), .int .u32 (wd z 3), .int .u32 (wd z 4), .int .u32 (wd z 5)], .int .u32 d]) ∧ Below w.heap.size w w'

end
/- Package number: Of, From, isValue, top, negative, Compare, Value, Add, Sub, Neg. -/
section
open Go.RowKit

/-- a result (zero yet) in block r, and a number in block o whose first words have been laid -/
structure FillAt (w : World) (r o : Nat) (g : Nat → Int) (k : Nat) (w' : World) : Prop where
  below : Below w.heap.size w w'
  nr : w.heap.size ≤ r
  no : w.heap.size ≤ o
  ne : r ≠ o
  lt : o < w'.heap.size
  res : RowAt w' r 6 fun _ => .int .u32 0
  out : RowAt w' o 6 fun i => .int .u32 (if i < k then g i else 0)
theorem FillAt.next {w w' : World} {r o : Nat} {g : Nat → Int} {k : Nat} (h : FillAt w r o g k w') (hk : k < 6) (x : Int) (hx : x = g k) :
    FillAt w r o g (k + 1) (w'.setCell ⟨o, k, none⟩ (.int .u32 x)) := by
  subst hx
  exact ⟨h.below.setCell h.no _, h.nr, h.no, h.ne, by rw [World.size_setCell]; exact h.lt, h.res.far _ (fun e => h.ne e.symm) _, h.out.put k hk _ (fun i _ => turn_if (fun _ => 0) g k i)⟩
theorem FillAt.call {w w1 w2 : World} {r o : Nat} {g : Nat → Int} {k : Nat} (h : FillAt w r o g k w1) (hb : Below w1.heap.size w1 w2) (hr : r < w1.heap.size) : FillAt w r o g k w2 :=
  ⟨h.below.trans (hb.mono h.below.size), h.nr, h.no, h.ne, Nat.lt_of_lt_of_le h.lt hb.size, h.res.below hb hr, h.out.below hb h.lt⟩
theorem FillAt.done {w w' : World} {r o : Nat} {z : Int} (h : FillAt w r o (wd z) 6 w') : RowAt w' o 6 (wV z) :=
  h.out.congr fun i hi => by rw [if_pos hi]; rfl
theorem zero6 : #[Value.int IntKind.u32 0, .int .u32 0, .int .u32 0, .int .u32 0, .int .u32 0, .int .u32 0] = rowA 6 fun _ => .int .u32 0 := rfl
theorem FillAt.begun {w W : World} (g : Nat → Int) (hb : Below w.heap.size w W) : FillAt w W.heap.size (W.heap.size + 1) g 0 ((W.alloc (.cells #[.int .u32 0, .int .u32 0, .int .u32 0, .int .u32 0, .int .u32 0, .int .u32 0] 174)).alloc (.cells #[.int .u32 0, .int .u32 0, .int .u32 0, .int .u32 0, .int .u32 0, .int .u32 0] 174)) := by
  rw [zero6]
  have h0 := RowAt.new W 6 (fun _ => .int .u32 0) 174
  have h1 := RowAt.new (W.alloc (.cells (rowA 6 fun _ => .int .u32 0) 174)) 6 (fun _ => .int .u32 0) 174
  simp only [World.size_alloc] at h1
  exact ⟨(hb.alloc hb.size _).alloc (by have := hb.size; simp; omega) _, hb.size, by have := hb.size; omega, by omega, by simp, h0.past (by simp) _, RowAt.congr (f := fun _ => .int .u32 0) h1 fun i _ => by simp⟩

theorem sh_of (n : Int) (k : Nat) : n / pw (k + 1) = n / pw k / 4294967296 := div_succ n k
theorem pw_nat (k : Nat) : pw k = ((2 ^ (k * 32) : Nat) : Int) := by
  induction k with
  | zero => rfl
  | succ k ih => rw [pw_succ, ih, show (k + 1) * 32 = k * 32 + 32 by omega, Nat.pow_add, Int.natCast_mul]; rfl
theorem from_word (v : Nat) (k : Nat) : lo (v / 2 ^ (k * 32)) % 4294967296 = wd v k := by
  unfold lo wd
  rw [pw_nat, ← Int.natCast_ediv]
  omega
theorem pw_le (k : Nat) (hk : 4 ≤ k) : pw 4 ≤ pw k := by
  obtain ⟨j, rfl⟩ := Nat.exists_eq_add_of_le hk
  have h : pw (4 + j) = pw 4 * pw j := Int.pow_add _ _ _
  rw [h]
  have := Int.mul_le_mul_of_nonneg_left (show 1 ≤ pw j from pw_pos j) (Int.le_of_lt (pw_pos 4))
  omega
theorem from_top (v : Nat) (hv : v < 2 ^ 128) (k : Nat) (hk : 4 ≤ k) : wd v k = 0 := by
  have hp := pw_le k hk
  have h4 : pw 4 = 340282366920938463463374607431768211456 := rfl
  unfold wd
  rw [Int.ediv_eq_zero_of_lt (by omega) (by omega)]
  rfl
/-- From's state -/
structure FromAt (w : World) (v k : Nat) (w' : World) : Prop where
  fill : FillAt w (w.heap.size + 1) (w.heap.size + 1 + 1) (wd v) k w'
  h0 : w'.cell? ⟨w.heap.size, 0, none⟩ = some (.int .u64 (hi v))
  h1 : w'.cell? ⟨w.heap.size, 1, none⟩ = some (.int .u64 (lo v))
set_option maxRecDepth 100000 in
set_option maxHeartbeats 1000000 in
theorem nn_from (v : Nat) (hv : v < 2 ^ 128) (w : World) :
    Calls Tryd.prog 58 #[.agg #[.int .u64 (hi v), .int .u64 (lo v)]] w (RetN v w) := by
  go_enter Tryd.func58, Tryd.ntmps58
  go_wp2_with (simp only [zero_num])
  go_loopw [5] (fun i w' => ∃ k : Nat, k ≤ 4 ∧ i = .int .i64 k ∧ FromAt w v k w') (fun i _ => 4 - (intOf i).toNat)
  case atStart =>
    have h := FillAt.begun (w := w) (W := w.alloc (.cells #[.int .u64 (hi v), .int .u64 (lo v)] 102)) (wd v) ((Below.refl _ _).alloc (by simp) _)
    simp only [World.size_alloc] at h
    exact ⟨0, by omega, rfl, h, by simp [go_sem], by simp [go_sem]⟩
  case round =>
    obtain ⟨k, hk, rfl, hR⟩ := hrel
    by_cases hlt : (k : Int) < 4
    · have i2 : wr.cell? ⟨w.heap.size + 1 + 1, k, none⟩ = some _ := hR.fill.out.cell k (by omega)
      have i3 : wr.frozen? ⟨w.heap.size + 1 + 1, k, none⟩ = false := hR.fill.out.froz k (by omega)
      have c0 := hR.h0
      have c1 := hR.h1
      have hs : w.heap.size + 3 ≤ wr.heap.size := hR.fill.lt
      have hl := lo_0 (v / 2 ^ (k * 32))
      have hl2 := lo_1 (v / 2 ^ (k * 32))
      go_wp2_with (first | (go_at_call 60; refine (right_any v ((k : Int) * 32) hv (by omega) _).mono ?_; rintro e w' ⟨rfl, hb⟩; obtain ⟨hc, hf, hz⟩ := after (w.heap.size + 3) hb hs hs) | simp only [run_field_lo])
      go_roundw
      case rel =>
        go_light
        refine ⟨k + 1, by omega, by simp, (hR.fill.call hb (by omega)).next (by omega) _ ?_, ?_, ?_⟩
        · exact from_word v k
        · rw [World.cell?_setCell_far _ _ _ _ (by simp; omega), hc _ _ (by omega)]; exact c0
        · rw [World.cell?_setCell_far _ _ _ _ (by simp; omega), hc _ _ (by omega)]; exact c1
      case measure => simp [intOf]; omega
    · have e : k = 4 := by omega
      subst e
      have hd : RowAt wr (w.heap.size + 1 + 1) 6 (wV v) := hR.fill.out.congr fun i hi => by
        by_cases h : i < 4
        · rw [if_pos h]; rfl
        · rw [if_neg h]; unfold wV; rw [from_top v hv i (by omega)]
      go_wp2_with (first | refine wpList_load_num rfl rfl rfl hd ?_ | refine wpList_store_num (fun _ _ => rfl) rfl rfl rfl rfl hR.fill.res.there ?_)
      go_light
      refine bodyPost_ret (v := nV v) (by exact results_num rfl rfl (RowAt.stored hR.fill.res.there (wV v))) rfl ⟨rfl, ?_⟩
      exact belowCells hR.fill.below (by omega) _ _

theorem store6 {B : Nat} {w0 w : World} (h : Below B w0 w) {b : Nat} (hb : B ≤ b) (v0 v1 v2 v3 v4 v5 : Value) : Below B w0 ((((((w.setCell ⟨b, 0, none⟩ v0).setCell ⟨b, 1, none⟩ v1).setCell ⟨b, 2, none⟩ v2).setCell ⟨b, 3, none⟩ v3).setCell ⟨b, 4, none⟩ v4).setCell ⟨b, 5, none⟩ v5) :=
  (((((h.setCell (p := ⟨b, 0, none⟩) hb _).setCell (p := ⟨b, 1, none⟩) hb _).setCell (p := ⟨b, 2, none⟩) hb _).setCell (p := ⟨b, 3, none⟩) hb _).setCell (p := ⟨b, 4, none⟩) hb _).setCell (p := ⟨b, 5, none⟩) hb _
set_option maxRecDepth 100000 in
set_option maxHeartbeats 1000000 in
theorem nn_add (a b : Int) (w : World) : Calls Tryd.prog 82 #[nV a, nV b] w (RetN (a + b) w) := by
  rw [nV_lit, nV_lit]
  go_enter Tryd.func82, Tryd.ntmps82
  go_wp2_with (go_at_call 90; refine (nn_sum a b 0 (by decide) (by decide) _).mono ?_; rintro e w1 ⟨rfl, hb⟩; obtain ⟨hc, hf, hz⟩ := after (w.heap.size + 3) hb (by simp) (by simp); rw [Int.add_zero])
  refine bodyPost_ret (v := .agg #[.int .u32 (wd (a + b) 0), .int .u32 (wd (a + b) 1), .int .u32 (wd (a + b) 2), .int .u32 (wd (a + b) 3), .int .u32 (wd (a + b) 4), .int .u32 (wd (a + b) 5)]) (by simp [results, Tryd.results82, go_sem, hc]) rfl ⟨rfl, ?_⟩
  exact store6 (((((Below.refl _ _).alloc (by simp) _).alloc (by simp) _).alloc (by simp; omega) _).trans (hb.mono (by simp; omega))) (by omega) _ _ _ _ _ _

set_option maxRecDepth 100000 in
set_option maxHeartbeats 1000000 in
theorem nn_sub (a b : Int) (w : World) : Calls Tryd.prog 83 #[nV a, nV b] w (RetN (a - b) w) := by
  have es : a + (-b - 1) + 1 = a - b := by omega
  rw [nV_lit, nV_lit]
  go_enter Tryd.func83, Tryd.ntmps83
  go_wp2
  go_region_with (first
    | (go_at_call 91; refine (nn_not b _).mono ?_; rintro e w1 ⟨rfl, hb⟩; obtain ⟨hc, hf, hz⟩ := after (w.heap.size + 3) hb (by simp) (by simp))
    | (go_at_call 90; refine (nn_sum a (-b - 1) 1 (by decide) (by decide) _).mono ?_; rintro e w2 ⟨rfl, hb2⟩; obtain ⟨hc2, hf2, hz2⟩ := after (w.heap.size + 3) hb2 (by have := hb.size; simpa using this) (by have := hb.size; simpa using this); rw [es]))
  all_goals go_wp2
  all_goals refine bodyPost_ret (v := .agg #[.int .u32 (wd (a - b) 0), .int .u32 (wd (a - b) 1), .int .u32 (wd (a - b) 2), .int .u32 (wd (a - b) 3), .int .u32 (wd (a - b) 4), .int .u32 (wd (a - b) 5)]) (by simp [results, Tryd.results83, go_sem, hc, hc2]) rfl ⟨rfl, ?_⟩
  all_goals refine store6 ?_ (by omega) _ _ _ _ _ _
  all_goals exact (((((Below.refl _ _).alloc (by simp) _).alloc (by simp) _).alloc (by simp; omega) _).drew.trans (hb.mono (by simp; omega))).trans (hb2.mono (by have := hb.size; simp at this; omega))
end
/- Package number: Neg, top, negative, isValue, and the standard library's comparison. -/
section
open Go.RowKit

set_option maxRecDepth 100000 in
set_option maxHeartbeats 1000000 in
theorem nn_neg (a : Int) (w : World) : Calls Tryd.prog 81 #[nV a] w (RetN (-a) w) := by
  have es : 0 - a = -a := by omega
  rw [nV_lit]
  go_enter Tryd.func81, Tryd.ntmps81
  go_wp2_with (go_at_call 83; refine (nn_sub 0 a _).mono ?_; rintro e w1 ⟨rfl, hb⟩; obtain ⟨hc, hf, hz⟩ := after (w.heap.size + 2) hb (by simp) (by simp); rw [es])
  refine bodyPost_ret (v := .agg #[.int .u32 (wd (-a) 0), .int .u32 (wd (-a) 1), .int .u32 (wd (-a) 2), .int .u32 (wd (-a) 3), .int .u32 (wd (-a) 4), .int .u32 (wd (-a) 5)]) (by simp [results, Tryd.results81, go_sem, hc]) rfl ⟨rfl, ?_⟩
  exact store6 ((((Below.refl _ _).alloc (by simp) _).alloc (by simp) _).trans (hb.mono (by simp; omega))) (by omega) _ _ _ _ _ _

/-- the highest word with the sign -/
def tp (z : Int) : Int := z / pw 5
theorem tp_b (z : Int) (h : Rg z) : -2147483648 ≤ tp z ∧ tp z < 2147483648 := by
  have h5 : pw 5 = 1461501637330902918203684832716283019655932542976 := rfl
  unfold Rg at h; unfold tp; rw [h5]; omega
theorem tp_wrap (z : Int) (h : Rg z) : wrap32 (wd z 5) = tp z := by
  have hb := tp_b z h
  have e : wd z 5 = tp z % 4294967296 := rfl
  rw [e]
  unfold wrap32
  omega
set_option maxRecDepth 100000 in
set_option maxHeartbeats 1000000 in
theorem nn_top (z : Int) (h : Rg z) (w : World) : Calls Tryd.prog 93 #[nV z] w (RetX (.int .i32 (tp z)) w) := by
  have T := Lib.hid (tp_wrap z h)
  have w0 := wd_0 z 5
  have w1 := wd_1 z 5
  clear h
  rw [nV_lit]
  go_enter Tryd.func93, Tryd.ntmps93
  go_wp2
  go_ret
  refine ⟨?_, (Below.refl _ _).alloc (by simp) _⟩
  show Ending.returned (.int .i32 (wrap32 (wd z 5))) = _
  rw [T.out]

/-- the sign of a difference -/
def sgn (a b : Int) : Int := if a = b then 0 else if a < b then -1 else 1
set_option maxRecDepth 100000 in
set_option maxHeartbeats 1000000 in
theorem nn_nan32 (x : Int) (w : World) : Calls Tryd.prog 101 #[.int .i32 x] w fun e w' => e = .returned (.bool false) ∧ w = w' := by
  go_enter Tryd.func101, Tryd.ntmps101
  go_wp2
  go_ret
  exact ⟨by simp, rfl⟩
set_option maxRecDepth 100000 in
set_option maxHeartbeats 1000000 in
theorem nn_nanu (x : Int) (w : World) : Calls Tryd.prog 102 #[.int .u32 x] w fun e w' => e = .returned (.bool false) ∧ w = w' := by
  go_enter Tryd.func102, Tryd.ntmps102
  go_wp2
  go_ret
  exact ⟨by simp, rfl⟩
set_option maxRecDepth 100000 in
set_option maxHeartbeats 1000000 in
theorem nn_cmp32 (x y : Int) (w : World) : Calls Tryd.prog 92 #[.int .i32 x, .int .i32 y] w fun e w' => e = .returned (.int .i64 (sgn x y)) ∧ w = w' := by
  by_cases h1 : x < y
  · have e : sgn x y = -1 := by unfold sgn; rw [if_neg (by omega), if_pos h1]
    rw [e]; clear e
    go_enter Tryd.func92, Tryd.ntmps92
    go_wp2_with (go_at_call 101; refine (nn_nan32 _ _).mono ?_; rintro e w' ⟨rfl, rfl⟩)
    go_ret
    exact ⟨rfl, rfl⟩
  · by_cases h2 : y < x
    · have e : sgn x y = 1 := by unfold sgn; rw [if_neg (by omega), if_neg h1]
      rw [e]; clear e
      go_enter Tryd.func92, Tryd.ntmps92
      go_wp2_with (go_at_call 101; refine (nn_nan32 _ _).mono ?_; rintro e w' ⟨rfl, rfl⟩)
      go_ret
      exact ⟨rfl, rfl⟩
    · have e : sgn x y = 0 := by unfold sgn; rw [if_pos (by omega)]
      rw [e]; clear e
      go_enter Tryd.func92, Tryd.ntmps92
      go_wp2_with (go_at_call 101; refine (nn_nan32 _ _).mono ?_; rintro e w' ⟨rfl, rfl⟩)
      go_ret
      exact ⟨rfl, rfl⟩
set_option maxRecDepth 100000 in
set_option maxHeartbeats 1000000 in
theorem nn_cmpu (x y : Int) (w : World) : Calls Tryd.prog 94 #[.int .u32 x, .int .u32 y] w fun e w' => e = .returned (.int .i64 (sgn x y)) ∧ w = w' := by
  by_cases h1 : x < y
  · have e : sgn x y = -1 := by unfold sgn; rw [if_neg (by omega), if_pos h1]
    rw [e]; clear e
    go_enter Tryd.func94, Tryd.ntmps94
    go_wp2_with (go_at_call 102; refine (nn_nanu _ _).mono ?_; rintro e w' ⟨rfl, rfl⟩)
    go_ret
    exact ⟨rfl, rfl⟩
  · by_cases h2 : y < x
    · have e : sgn x y = 1 := by unfold sgn; rw [if_neg (by omega), if_neg h1]
      rw [e]; clear e
      go_enter Tryd.func94, Tryd.ntmps94
      go_wp2_with (go_at_call 102; refine (nn_nanu _ _).mono ?_; rintro e w' ⟨rfl, rfl⟩)
      go_ret
      exact ⟨rfl, rfl⟩
    · have e : sgn x y = 0 := by unfold sgn; rw [if_pos (by omega)]
      rw [e]; clear e
      go_enter Tryd.func94, Tryd.ntmps94
      go_wp2_with (go_at_call 102; refine (nn_nanu _ _).mono ?_; rintro e w' ⟨rfl, rfl⟩)
      go_ret
      exact ⟨rfl, rfl⟩
end
/- Package number: isValue, Compare, Value. -/
section
open Go.RowKit

/-- z is from 0 to 2^128 - 1 -/
def isV (z : Int) : Bool := decide (0 ≤ z ∧ z < 340282366920938463463374607431768211456)
theorem isV_words (z : Int) (h : Rg z) : isV z = decide (wd z 4 = 0 ∧ wd z 5 = 0) := by
  have h4 : pw 4 = 340282366920938463463374607431768211456 := rfl
  have h5 : pw 5 = 1461501637330902918203684832716283019655932542976 := rfl
  unfold Rg at h
  unfold isV wd
  rw [h4, h5, decide_eq_decide]
  omega
set_option maxRecDepth 100000 in
set_option maxHeartbeats 1000000 in
theorem nn_isv (z : Int) (h : Rg z) (w : World) : Calls Tryd.prog 98 #[nV z] w (RetX (.bool (isV z)) w) := by
  have T := Lib.hid (isV_words z h)
  clear h
  rw [nV_lit]
  go_enter Tryd.func98, Tryd.ntmps98
  go_wp2
  go_loop [8] (fun i => ∃ k : Nat, k ≤ 2 ∧ i = .int .i64 k ∧ ∀ j, j < k → wd z (4 + j) = 0) (fun i => 2 - (intOf i).toNat)
  case atStart => exact ⟨0, by omega, rfl, fun _ h => absurd h (Nat.not_lt_zero _)⟩
  case round =>
    obtain ⟨k, hk, rfl, hj⟩ := hrel
    have HJ := Lib.hid hj
    clear hj
    by_cases hlt : (k : Int) < 2
    · have c : (w.alloc (.cells #[.int .u32 (wd z 0), .int .u32 (wd z 1), .int .u32 (wd z 2), .int .u32 (wd z 3), .int .u32 (wd z 4), .int .u32 (wd z 5)] 174)).cell? ⟨w.heap.size, 4 + k, none⟩ = some (.int .u32 (wd z (4 + k))) := by
        rw [World.cell?_alloc_new]
        have : k = 0 ∨ k = 1 := by omega
        rcases this with rfl | rfl <;> rfl
      by_cases hz : wd z (4 + k) = 0
      · have HZ := Lib.hid hz
        rw [hz] at c
        clear hz
        go_wp2
        go_round
        case rel =>
          refine ⟨k + 1, by omega, by simp, fun j hj => ?_⟩
          by_cases e : j = k
          · subst e; exact HZ.out
          · exact HJ.out j (by omega)
        case measure => simp [intOf]; omega
      · have t1 : (wd z (4 + k) == 0) = false := by simpa using hz
        have t2 : (wd z (4 + k) != 0) = true := by simpa using hz
        have HZ := Lib.hid hz
        clear hz
        go_wp2
        go_ret
        refine ⟨?_, (Below.refl _ _).alloc (by simp) _⟩
        have e : isV z = false := by
          rw [T.out, decide_eq_false_iff_not]
          intro ⟨a, b⟩
          have : k = 0 ∨ k = 1 := by omega
          rcases this with rfl | rfl
          · exact HZ.out a
          · exact HZ.out b
        rw [e]
        rfl
    · have ek : k = 2 := by omega
      subst ek
      go_wp2
      go_ret
      refine ⟨?_, (Below.refl _ _).alloc (by simp) _⟩
      have e : isV z = true := by
        rw [T.out, decide_eq_true_iff]
        exact ⟨HJ.out 0 (by omega), HJ.out 1 (by omega)⟩
      rw [e]
      rfl

/-- the first word from the top at which a and b part -/
theorem sgn_words (a b : Int) (i : Nat) (h : a / pw (i + 1) = b / pw (i + 1)) (hne : wd a i ≠ wd b i) : sgn (wd a i) (wd b i) = sgn a b := by
  have e1 : a / pw i = 4294967296 * (a / pw (i + 1)) + wd a i := by rw [div_succ]; unfold wd; omega
  have e2 : b / pw i = 4294967296 * (b / pw (i + 1)) + wd b i := by rw [div_succ]; unfold wd; omega
  have hp := pw_pos i
  have l1 := div_split a i
  have l2 := div_split b i
  have m1 := Int.emod_nonneg a (Int.ne_of_gt hp)
  have m2 := Int.emod_nonneg b (Int.ne_of_gt hp)
  have m3 := Int.emod_lt_of_pos a hp
  have m4 := Int.emod_lt_of_pos b hp
  rw [h] at e1
  by_cases lt : wd a i < wd b i
  · have hd : a / pw i + 1 ≤ b / pw i := by omega
    have := Int.mul_le_mul_of_nonneg_left hd (Int.le_of_lt hp)
    rw [Int.mul_add, Int.mul_one] at this
    unfold sgn
    rw [if_neg hne, if_pos lt, if_neg (by omega), if_pos (by omega)]
  · have hd : b / pw i + 1 ≤ a / pw i := by omega
    have := Int.mul_le_mul_of_nonneg_left hd (Int.le_of_lt hp)
    rw [Int.mul_add, Int.mul_one] at this
    unfold sgn
    rw [if_neg hne, if_neg lt, if_neg (by omega), if_neg (by omega)]
theorem sgn_top (a b : Int) (hne : tp a ≠ tp b) : sgn (tp a) (tp b) = sgn a b := by
  have h5 : pw 5 = 1461501637330902918203684832716283019655932542976 := rfl
  unfold tp at *
  rw [h5] at hne
  rw [h5]
  unfold sgn
  split <;> split <;> (try split) <;> (try split) <;> omega
theorem down_eq (a b : Int) (i : Nat) (h : a / pw (i + 1) = b / pw (i + 1)) (hw : wd a i = wd b i) : a / pw i = b / pw i := by
  have e1 : a / pw i = 4294967296 * (a / pw (i + 1)) + wd a i := by rw [div_succ]; unfold wd; omega
  have e2 : b / pw i = 4294967296 * (b / pw (i + 1)) + wd b i := by rw [div_succ]; unfold wd; omega
  rw [e1, e2, h, hw]
/-- what a walk says of six words one after the other -/
def six6 (a0 a1 a2 a3 a4 a5 b0 b1 b2 b3 b4 b5 : Int) : Bool := a0 == b0 && (a1 == b1 && (a2 == b2 && (a3 == b3 && (a4 == b4 && a5 == b5))))
set_option maxRecDepth 100000 in
set_option maxHeartbeats 1000000 in
theorem eqc_six (d : Nat) (a0 a1 a2 a3 a4 a5 b0 b1 b2 b3 b4 b5 : Int) (w : World) : (Op.equalIn (d + 2) 171 (.agg #[.int .u32 a0, .int .u32 a1, .int .u32 a2, .int .u32 a3, .int .u32 a4, .int .u32 a5]) (.agg #[.int .u32 b0, .int .u32 b1, .int .u32 b2, .int .u32 b3, .int .u32 b4, .int .u32 b5])).run Tryd.prog w = .ok (six6 a0 a1 a2 a3 a4 a5 b0 b1 b2 b3 b4 b5) w := by
  have hc : Tryd.prog.cellsOf 170 = 1 := by kernel_rfl
  obtain ⟨i, hi⟩ : ∃ i, Tryd.prog.info? 170 = some i := Option.isSome_iff_exists.1 (by kernel_rfl)
  have ha : ∀ w, (isAgg 170).run Tryd.prog w = .ok false w := fun w => by kernel_rfl
  have he : ∀ (a b : Int) (w : World), (Op.equalIn (d + 1) 170 (.int .u32 a) (.int .u32 b)).run Tryd.prog w = .ok (a == b) w := fun a b w => run_equalIn_int w d _ _ _ a b Tryd.underlying170
  rw [show d + 2 = (d + 1) + 1 from rfl, run_equalIn_array w (d + 1) _ _ Tryd.underlying171 hi, hc]
  have hr : List.range 6 = [0, 1, 2, 3, 4, 5] := rfl
  rw [hr]
  simp only [Op.eqItems, part, Sem.run_bind, ha, Result.andThen]
  simp [he, six6, Sem.run_ite]
  repeat' split
  all_goals simp_all
set_option maxRecDepth 100000 in
set_option maxHeartbeats 1000000 in
theorem eqc_num (d : Nat) (a0 a1 a2 a3 a4 a5 b0 b1 b2 b3 b4 b5 : Int) (w : World) : (Op.equalIn (d + 3) 174 (.agg #[.int .u32 a0, .int .u32 a1, .int .u32 a2, .int .u32 a3, .int .u32 a4, .int .u32 a5]) (.agg #[.int .u32 b0, .int .u32 b1, .int .u32 b2, .int .u32 b3, .int .u32 b4, .int .u32 b5])).run Tryd.prog w = .ok (six6 a0 a1 a2 a3 a4 a5 b0 b1 b2 b3 b4 b5) w := by
  have hS : Tryd.prog.underlying 174 = some (.struct (Tryd.prog.fieldsOf 174)) := by kernel_rfl
  have hV := fun w => eqc_six d a0 a1 a2 a3 a4 a5 b0 b1 b2 b3 b4 b5 w
  rw [show d + 3 = (d + 2) + 1 from rfl, run_equalIn_agg w (d + 2) 174 _ _ hS (by kernel_rfl)]
  simp only [Program.fieldsOf, Tryd.underlying174]
  clear hS
  go_simp
  cases six6 a0 a1 a2 a3 a4 a5 b0 b1 b2 b3 b4 b5 <;> rfl
theorem six_eq (a b : Int) (ha : Rg a) (hb : Rg b) : six6 (wd a 0) (wd a 1) (wd a 2) (wd a 3) (wd a 4) (wd a 5) (wd b 0) (wd b 1) (wd b 2) (wd b 3) (wd b 4) (wd b 5) = decide (a = b) := by
  rw [Bool.eq_iff_iff, decide_eq_true_iff]
  constructor
  · intro h
    simp only [six6, Bool.and_eq_true, beq_iff_eq] at h
    obtain ⟨h0, h1, h2, h3, h4, h5⟩ := h
    refine words_inj ha hb fun k hk => ?_
    match k, hk with
    | 0, _ => exact h0 | 1, _ => exact h1 | 2, _ => exact h2 | 3, _ => exact h3 | 4, _ => exact h4 | 5, _ => exact h5
  · rintro rfl; simp [six6]
set_option maxRecDepth 100000 in
theorem eqi_num (a b : Int) (ha : Rg a) (hb : Rg b) (w : World) : (Op.equalIn 10000 174 (.agg #[.int .u32 (wd a 0), .int .u32 (wd a 1), .int .u32 (wd a 2), .int .u32 (wd a 3), .int .u32 (wd a 4), .int .u32 (wd a 5)]) (.agg #[.int .u32 (wd b 0), .int .u32 (wd b 1), .int .u32 (wd b 2), .int .u32 (wd b 3), .int .u32 (wd b 4), .int .u32 (wd b 5)])).run Tryd.prog w = .ok (decide (a = b)) w := by
  rw [eqc_num 9997, six_eq a b ha hb]
set_option maxRecDepth 100000 in
theorem eq_num (a b : Int) (ha : Rg a) (hb : Rg b) (w : World) : (binOp .eql 174 (.agg #[.int .u32 (wd a 0), .int .u32 (wd a 1), .int .u32 (wd a 2), .int .u32 (wd a 3), .int .u32 (wd a 4), .int .u32 (wd a 5)]) (.agg #[.int .u32 (wd b 0), .int .u32 (wd b 1), .int .u32 (wd b 2), .int .u32 (wd b 3), .int .u32 (wd b 4), .int .u32 (wd b 5)])).run Tryd.prog w = .ok (.bool (decide (a = b))) w := by
  rw [run_eql_struct, eqc_num 9997, six_eq a b ha hb]; rfl
set_option maxRecDepth 100000 in
theorem eq_six (a b : Int) (ha : Rg a) (hb : Rg b) (w : World) : (binOp .eql 171 (.agg #[.int .u32 (wd a 0), .int .u32 (wd a 1), .int .u32 (wd a 2), .int .u32 (wd a 3), .int .u32 (wd a 4), .int .u32 (wd a 5)]) (.agg #[.int .u32 (wd b 0), .int .u32 (wd b 1), .int .u32 (wd b 2), .int .u32 (wd b 3), .int .u32 (wd b 4), .int .u32 (wd b 5)])).run Tryd.prog w = .ok (.bool (decide (a = b))) w := by
  rw [run_eql_struct, eqc_six 9998, six_eq a b ha hb]; rfl
set_option maxRecDepth 100000 in
set_option maxHeartbeats 1000000 in
theorem nn_cmp_eq (a : Int) (ha : Rg a) (w : World) : Calls Tryd.prog 84 #[nV a, nV a] w (RetX (.int .i64 0) w) := by
  have hE := fun w => eq_six a a ha ha w
  have hg : Tryd.prog.eqGuardType Tryd.prog.depth 171 = false := by kernel_rfl
  simp only [decide_true] at hE
  rw [nV_lit]
  go_enter Tryd.func84, Tryd.ntmps84
  go_wp2
  go_ret
  exact ⟨rfl, ((Below.refl _ _).alloc (by simp) _).alloc (by simp) _⟩
end
/- Package number: Compare of two that are not equal. -/
section
open Go.RowKit

theorem nn_topL (z : Int) (h : Rg z) (w : World) : Calls Tryd.prog 93 #[.agg #[.int .u32 (wd z 0), .int .u32 (wd z 1), .int .u32 (wd z 2), .int .u32 (wd z 3), .int .u32 (wd z 4), .int .u32 (wd z 5)]] w (RetX (.int .i32 (tp z)) w) := nn_top z h w
/-- a callee that changes nothing, behind an elder draw -/
theorem quiet_behind {P : Program} {f : FuncId} {args : Array Value} {w : World} {a n : Nat} {v : Value} (h : Calls P f args (w.drewN (a + n)) fun e w' => e = .returned v ∧ w.drewN (a + n) = w') :
    Calls P f args (w.drewN (a + n)) fun e w'' => e = .returned v ∧ ∃ m, w'' = w.drewN (a + m) :=
  h.mono fun _ _ h => ⟨h.1, n, h.2.symm⟩
/-- two numbers in their boxes -/
structure TwoN (w : World) (a b : Int) (w' : World) : Prop where
  below : Below w.heap.size w w'
  size : w.heap.size + 2 ≤ w'.heap.size
  ra : RowAt w' w.heap.size 6 (wV a)
  rb : RowAt w' (w.heap.size + 1) 6 (wV b)
theorem TwoN.begun (w : World) (a b : Int) : TwoN w a b ((w.alloc (.cells #[.int .u32 (wd a 0), .int .u32 (wd a 1), .int .u32 (wd a 2), .int .u32 (wd a 3), .int .u32 (wd a 4), .int .u32 (wd a 5)] 174)).alloc (.cells #[.int .u32 (wd b 0), .int .u32 (wd b 1), .int .u32 (wd b 2), .int .u32 (wd b 3), .int .u32 (wd b 4), .int .u32 (wd b 5)] 174)) := by
  have h0 := RowAt.new w 6 (wV a) 174
  have h1 := RowAt.new (w.alloc (.cells (rowA 6 (wV a)) 174)) 6 (wV b) 174
  simp only [World.size_alloc] at h1
  exact ⟨((Below.refl _ _).alloc (by simp) _).alloc (by simp) _, by simp, h0.past (by simp) _, h1⟩
theorem TwoN.call {w w1 w2 : World} {a b : Int} (h : TwoN w a b w1) (hb : Below w1.heap.size w1 w2) : TwoN w a b w2 :=
  ⟨h.below.trans (hb.mono (by have := h.size; omega)), Nat.le_trans h.size hb.size, h.ra.below hb (by have := h.size; omega), h.rb.below hb (by have := h.size; omega)⟩
theorem TwoN.drew {w w1 : World} {a b : Int} (h : TwoN w a b w1) : TwoN w a b w1.drew := ⟨h.below.drew, h.size, h.ra.drew, h.rb.drew⟩
theorem TwoN.drewN {w w' : World} {a b : Int} {n : Nat} (h : TwoN w a b w') : TwoN w a b (w'.drewN n) := by
  induction n with
  | zero => exact h
  | succ n ih => exact ih.drew
theorem TwoN.cells {w w' : World} {a b : Int} (h : TwoN w a b w') (k : Nat) (hk : k < 6) : w'.cell? ⟨w.heap.size, k, none⟩ = some (.int .u32 (wd a k)) ∧ w'.cell? ⟨w.heap.size + 1, k, none⟩ = some (.int .u32 (wd b k)) := ⟨h.ra.cell k hk, h.rb.cell k hk⟩
set_option maxRecDepth 100000 in
set_option maxHeartbeats 2000000 in
theorem nn_cmp_ne (a b : Int) (ha : Rg a) (hb : Rg b) (hne : a ≠ b) (w : World) : Calls Tryd.prog 84 #[nV a, nV b] w (RetX (.int .i64 (sgn a b)) w) := by
  have hE := fun w => eq_six a b ha hb w
  have hg : Tryd.prog.eqGuardType Tryd.prog.depth 171 = false := by kernel_rfl
  rw [decide_eq_false hne] at hE
  have HNE := Lib.hid hne
  clear hne
  rw [nV_lit, nV_lit]
  go_enter Tryd.func84, Tryd.ntmps84
  go_upto_region 3 with (fail)
  clear hE hg
  have hT := TwoN.begun w a b
  generalize hW : ((w.alloc (.cells #[.int .u32 (wd a 0), .int .u32 (wd a 1), .int .u32 (wd a 2), .int .u32 (wd a 3), .int .u32 (wd a 4), .int .u32 (wd a 5)] 174)).alloc (.cells #[.int .u32 (wd b 0), .int .u32 (wd b 1), .int .u32 (wd b 2), .int .u32 (wd b 3), .int .u32 (wd b 4), .int .u32 (wd b 5)] 174)) = W at hT ⊢
  clear hW
  go_cut [5] (fun x wx => x = .int .i64 (sgn (tp a) (tp b)) ∧ TwoN w a b wx)
  case first =>
    obtain ⟨a0, b0⟩ := hT.cells 0 (by decide)
    obtain ⟨a1, b1⟩ := hT.cells 1 (by decide)
    obtain ⟨a2, b2⟩ := hT.cells 2 (by decide)
    obtain ⟨a3, b3⟩ := hT.cells 3 (by decide)
    obtain ⟨a4, b4⟩ := hT.cells 4 (by decide)
    obtain ⟨a5, b5⟩ := hT.cells 5 (by decide)
    have hs := hT.size
    go_region_with (first
      | (go_at_call 93; refine (nn_topL _ (by assumption) _).mono ?_; rintro e w1 ⟨rfl, hx⟩; first | (have hT2 := hT1.call hx) | (have hT1 := TwoN.call hT.drew hx); obtain ⟨hc, hf, hz⟩ := after (w.heap.size + 2) hx (by assumption) (by assumption))
      | (go_at_call 92; refine (nn_cmp32 _ _ _).mono ?_; rintro e w3 ⟨rfl, rfl⟩))
    all_goals go_wp2_with fail
    all_goals go_meet
    all_goals exact ⟨rfl, hT2⟩
  case rest =>
    obtain ⟨rfl, hT'⟩ := hcut
    clear hT
    by_cases ht : tp a = tp b
    · have t0 : sgn (tp a) (tp b) = 0 := by unfold sgn; rw [if_pos ht]
      rw [t0]; clear t0
      have HT : Hid (a / pw 5 = b / pw 5) := Lib.hid ht
      clear ht
      go_wp2
      go_loopw [6] (fun i w' => ∃ k : Nat, k ≤ 4 ∧ i = .int .i64 k ∧ Hid (a / pw (k + 1) = b / pw (k + 1)) ∧ TwoN w a b w') (fun i _ => (intOf i).toNat)
      case atStart => exact ⟨4, by omega, rfl, HT, hT'⟩
      case round =>
        obtain ⟨k, hk, rfl, HK, hR⟩ := hrel
        clear HT hT'
        have hk6 : (k : Int) < 6 := by omega
        obtain ⟨i0, i1⟩ := hR.cells k (by omega)
        by_cases hz : wd a k = wd b k
        · have hk0 : k ≠ 0 := fun e => HNE.out (by
            subst e
            have := down_eq a b 0 HK.out hz
            rwa [pw_0, Int.ediv_one, Int.ediv_one] at this)
          obtain ⟨j, rfl⟩ := Nat.exists_eq_succ_of_ne_zero hk0
          have HZ := Lib.hid (down_eq a b _ HK.out hz)
          have ej : ((j.succ : Nat) : Int) - 1 = (j : Int) := by omega
          rw [← hz] at i1
          clear hz hk0
          go_wp2
          go_quiet (fail)
          go_wp2
          go_roundw
          case rel =>
            go_light
            exact ⟨j, by omega, by simp, HZ, hR.drewN⟩
          case measure => simp [intOf]
        · have S := Lib.hid (sgn_words a b k HK.out hz)
          have t1 : (wd a k == wd b k) = false := by simpa using hz
          clear hz
          go_wp2
          go_quiet (fail)
          go_wp2
          go_quiet ((go_at_call 94; exact quiet_behind (nn_cmpu _ _ _)))
          go_wp2
          go_ret
          go_light
          refine ⟨?_, (hR.drewN.drewN).below⟩
          show Ending.returned (.int .i64 (sgn (wd a k) (wd b k))) = _
          rw [S.out]
    · have S := Lib.hid (sgn_top a b ht)
      have t0 : (sgn (tp a) (tp b) != 0) = true := by unfold sgn; rw [if_neg ht]; split <;> rfl
      have t1 : (sgn (tp a) (tp b) == 0) = false := by unfold sgn; rw [if_neg ht]; split <;> rfl
      go_wp2
      go_ret
      refine ⟨?_, hT'.below⟩
      show Ending.returned (.int .i64 (sgn (tp a) (tp b))) = _
      rw [S.out]
end
/- Package number: Value. -/
section
open Go.RowKit

/-- what the first k words of n are worth -/
def lowV (n k : Nat) : Nat := n % 2 ^ (k * 32)
theorem lowV_0 (n : Nat) : lowV n 0 = 0 := by unfold lowV; simp [Nat.mod_one]
theorem lowV_lt (n k : Nat) (hk : k ≤ 4) : lowV n k < 2 ^ 128 :=
  Nat.lt_of_lt_of_le (Nat.mod_lt _ (Nat.pow_pos (by decide))) (Nat.pow_le_pow_right (by decide) (by omega))
def wdN (n k : Nat) : Nat := n / 2 ^ (k * 32) % 4294967296
theorem wdN_eq (n k : Nat) : wd n k = (wdN n k : Int) := by
  unfold wd wdN
  rw [pw_nat, ← Int.natCast_ediv]
  omega
theorem wdN_lt (n k : Nat) : wdN n k < 4294967296 := Nat.mod_lt _ (by decide)
theorem lowV_step (n k : Nat) (hk : k < 4) : lowV n k ||| (wdN n k * 2 ^ (k * 32) % 2 ^ 128) = lowV n (k + 1) := by
  have e1 : 2 ^ ((k + 1) * 32) = 2 ^ (k * 32) * 4294967296 := by rw [Nat.add_mul, Nat.pow_add]
  have hlt : wdN n k * 2 ^ (k * 32) < 2 ^ 128 := by
    have h1 : wdN n k * 2 ^ (k * 32) < 4294967296 * 2 ^ (k * 32) := Nat.mul_lt_mul_of_pos_right (wdN_lt n k) (Nat.pow_pos (by decide))
    have h2 : 4294967296 * 2 ^ (k * 32) ≤ 2 ^ 128 := by
      rw [show (4294967296 : Nat) = 2 ^ 32 by decide, ← Nat.pow_add]
      exact Nat.pow_le_pow_right (by decide) (by omega)
    omega
  rw [Nat.mod_eq_of_lt hlt]
  have h := Nat.shiftLeft_add_eq_or_of_lt (i := k * 32) (b := lowV n k) (Nat.mod_lt _ (Nat.pow_pos (by decide))) (wdN n k)
  rw [Nat.shiftLeft_eq] at h
  rw [Nat.or_comm, ← h]
  unfold lowV wdN
  rw [e1, Nat.mod_mul]
  rw [Nat.mul_comm]; omega
theorem lowV_4 (n : Nat) (h : n < 2 ^ 128) : lowV n 4 = n := Nat.mod_eq_of_lt h

/-- Value's state: the number in its box, the result (zero yet), the value of the first k words in block V -/
structure ValAt (w : World) (V n k : Nat) (w' : World) : Prop where
  below : Below w.heap.size w w'
  nv : w.heap.size + 2 ≤ V
  lt : V < w'.heap.size
  ra : RowAt w' w.heap.size 6 (wV n)
  r0 : w'.cell? ⟨w.heap.size + 1, 0, none⟩ = some (.int .u64 0)
  r1 : w'.cell? ⟨w.heap.size + 1, 1, none⟩ = some (.int .u64 0)
  q0 : w'.frozen? ⟨w.heap.size + 1, 0, none⟩ = false
  q1 : w'.frozen? ⟨w.heap.size + 1, 1, none⟩ = false
  v0 : w'.cell? ⟨V, 0, none⟩ = some (.int .u64 (hi (lowV n k)))
  v1 : w'.cell? ⟨V, 1, none⟩ = some (.int .u64 (lo (lowV n k)))
  f0 : w'.frozen? ⟨V, 0, none⟩ = false
  f1 : w'.frozen? ⟨V, 1, none⟩ = false
theorem ValAt.drew {w w1 : World} {V n k : Nat} (h : ValAt w V n k w1) : ValAt w V n k w1.drew := ⟨h.below.drew, h.nv, h.lt, h.ra.drew, h.r0, h.r1, h.q0, h.q1, h.v0, h.v1, h.f0, h.f1⟩
theorem ValAt.call {w w1 w2 : World} {V n k : Nat} (h : ValAt w V n k w1) (hb : Below w1.heap.size w1 w2) : ValAt w V n k w2 := by
  have hs := h.lt
  have hv := h.nv
  have c : ∀ b o, b ≤ V → w2.cell? ⟨b, o, none⟩ = w1.cell? ⟨b, o, none⟩ := fun b o hl => hb.cell (p := ⟨b, o, none⟩) (by show b < _; omega)
  have f : ∀ b o, b ≤ V → w2.frozen? ⟨b, o, none⟩ = w1.frozen? ⟨b, o, none⟩ := fun b o hl => hb.frozen (p := ⟨b, o, none⟩) (by show b < _; omega)
  exact ⟨h.below.trans (hb.mono (by omega)), h.nv, Nat.lt_of_lt_of_le h.lt hb.size, h.ra.below hb (by omega), by rw [c _ _ (by omega)]; exact h.r0, by rw [c _ _ (by omega)]; exact h.r1, by rw [f _ _ (by omega)]; exact h.q0, by rw [f _ _ (by omega)]; exact h.q1,
    by rw [c _ _ (by omega)]; exact h.v0, by rw [c _ _ (by omega)]; exact h.v1, by rw [f _ _ (by omega)]; exact h.f0, by rw [f _ _ (by omega)]; exact h.f1⟩
theorem ValAt.set {w w1 : World} {V n k : Nat} (h : ValAt w V n k w1) (j : Nat) : ValAt w V n j ((w1.setCell ⟨V, 0, none⟩ (.int .u64 (hi (lowV n j)))).setCell ⟨V, 1, none⟩ (.int .u64 (lo (lowV n j)))) := by
  have hv := h.nv
  refine ⟨(h.below.setCell (by simp; omega) _).setCell (by simp; omega) _, hv, by rw [World.size_setCell, World.size_setCell]; exact h.lt, (h.ra.far _ (by simp; omega) _).far _ (by simp; omega) _, ?_, ?_, ?_, ?_, ?_, ?_, ?_, ?_⟩
  · rw [World.cell?_setCell_far _ _ _ _ (by simp; omega), World.cell?_setCell_far _ _ _ _ (by simp; omega)]; exact h.r0
  · rw [World.cell?_setCell_far _ _ _ _ (by simp; omega), World.cell?_setCell_far _ _ _ _ (by simp; omega)]; exact h.r1
  · rw [World.frozen?_setCell, World.frozen?_setCell]; exact h.q0
  · rw [World.frozen?_setCell, World.frozen?_setCell]; exact h.q1
  · rw [World.cell?_setCell_other _ _ _ _ (by simp), World.cell?_setCell_same' _ _ _ (by rw [h.v0]; rfl)]
  · rw [World.cell?_setCell_same' _ _ _ (by rw [World.cell?_setCell_other _ _ _ _ (by simp), h.v1]; rfl)]
  · rw [World.frozen?_setCell, World.frozen?_setCell]; exact h.f0
  · rw [World.frozen?_setCell, World.frozen?_setCell]; exact h.f1
theorem ValAt.begun {w w1 : World} {n : Nat} (hb : Below (w.heap.size + 2) ((w.alloc (.cells #[.int .u32 (wd n 0), .int .u32 (wd n 1), .int .u32 (wd n 2), .int .u32 (wd n 3), .int .u32 (wd n 4), .int .u32 (wd n 5)] 174)).alloc (.cells #[.int .u64 0, .int .u64 0] 102)) w1) : ValAt w w1.heap.size n 0 (w1.alloc (.cells #[.int .u64 0, .int .u64 0] 102)) := by
  have h0 := RowAt.new w 6 (wV n) 174
  have e0 : hi (lowV n 0) = 0 := by rw [lowV_0]; rfl
  have e1 : lo (lowV n 0) = 0 := by rw [lowV_0]; rfl
  have hs : w.heap.size + 2 ≤ w1.heap.size := by have := hb.size; simpa using this
  have c : ∀ b o, b < w.heap.size + 2 → w1.cell? ⟨b, o, none⟩ = _ := fun b o hl => hb.cell (p := ⟨b, o, none⟩) hl
  have f : ∀ b o, b < w.heap.size + 2 → w1.frozen? ⟨b, o, none⟩ = _ := fun b o hl => hb.frozen (p := ⟨b, o, none⟩) hl
  refine ⟨((((Below.refl _ _).alloc (by simp) _).alloc (by simp) _).trans (hb.mono (by omega))).alloc (by omega) _, hs, by simp, ((h0.past (by simp) _).below hb (by omega)).past (by omega) _, ?_, ?_, ?_, ?_, by rw [e0]; simp [go_sem], by rw [e1]; simp [go_sem], by simp [go_sem], by simp [go_sem]⟩
  · rw [World.cell?_alloc_past _ _ _ (by omega), c _ _ (by omega)]; simp [go_sem]
  · rw [World.cell?_alloc_past _ _ _ (by omega), c _ _ (by omega)]; simp [go_sem]
  · rw [World.frozen?_alloc_past _ _ _ (by omega), f _ _ (by omega)]; simp [go_sem]
  · rw [World.frozen?_alloc_past _ _ _ (by omega), f _ _ (by omega)]; simp [go_sem]
/-- The call returns the value n and true; nothing that there was is changed. -/
def RetVB (n : Nat) (b : Bool) (w : World) (e : Ending) (w' : World) : Prop := e = .returned (.tuple #[.agg #[.int .u64 (hi n), .int .u64 (lo n)], .bool b]) ∧ Below w.heap.size w w'
theorem store2 {B : Nat} {w0 w : World} (h : Below B w0 w) {b : Nat} (hb : B ≤ b) (v0 v1 : Value) : Below B w0 ((w.setCell ⟨b, 0, none⟩ v0).setCell ⟨b, 1, none⟩ v1) :=
  (h.setCell (p := ⟨b, 0, none⟩) hb _).setCell (p := ⟨b, 1, none⟩) hb _
theorem isV_nat (n : Nat) (h : n < 2 ^ 128) : isV n = true := by unfold isV; rw [decide_eq_true_iff]; omega
theorem rg_nat (n : Nat) (h : n < 2 ^ 128) : Rg n := by unfold Rg; omega
set_option maxRecDepth 100000 in
set_option maxHeartbeats 2000000 in
theorem nn_val_yes (n : Nat) (hn : n < 2 ^ 128) (w : World) : Calls Tryd.prog 109 #[nV n] w (RetVB n true w) := by
  have hI := isV_nat n hn
  have hG := rg_nat n hn
  have HL := Lib.hid (lowV_4 n hn)
  have HN := Lib.hid hn
  clear hn
  rw [nV_lit]
  go_enter Tryd.func109, Tryd.ntmps109
  go_wp2_with (go_at_call 98; refine (nn_isv n hG _).mono ?_; rintro e w1 ⟨rfl, hb⟩; rw [hI])
  have hV0 := ValAt.begun (hb.mono (by simp))
  generalize hV : w1.heap.size = V at hV0 ⊢
  clear hV hb hI
  go_loopw [10] (fun i w' => ∃ k : Nat, k ≤ 4 ∧ i = .int .i64 k ∧ ValAt w V n k w') (fun i _ => 4 - (intOf i).toNat)
  case atStart => exact ⟨0, by omega, rfl, hV0⟩
  case round =>
    obtain ⟨k, hk, rfl, hR⟩ := hrel
    clear hV0
    by_cases hlt : (k : Int) < 4
    · have HS := Lib.hid (lowV_step n k (by omega))
      have i0 : wr.cell? ⟨w.heap.size, k, none⟩ = some (.int .u32 (wd n k)) := hR.ra.cell k (by omega)
      rw [wdN_eq] at i0
      have hw := wdN_lt n k
      have v0 := hR.v0
      have v1 := hR.v1
      have f0 := hR.f0
      have f1 := hR.f1
      have hl := hR.lt
      have hnv := hR.nv
      have hm0 : 0 ≤ (k : Int) * 32 := by omega
      have hm1 : IntKind.i64.wrap ((k : Int) * 32) = (k : Int) * 32 := IntWalk.i64_in _ (by omega)
      have hk6 : (k : Int) < 6 := by omega
      have hw2 : IntKind.u64.wrap (wdN n k : Int) = (wdN n k : Int) := IntWalk.u64_in _ (by omega)
      go_wp2
      go_region_with (first
        | (go_at_call 32; refine (of_any (wdN n k) (by omega) _).mono ?_; rintro e w2 ⟨rfl, hb2⟩; have hR2 := ValAt.call hR.drew hb2; have a2 := hR2.v0; have b2 := hR2.v1; have c2 := hR2.f0; have d2 := hR2.f1)
        | (go_at_call 112; refine (left_any (wdN n k) ((k : Int) * 32) (by omega) (by omega) _).mono ?_; rintro e w3 ⟨rfl, hb3⟩; have hR3 := ValAt.call hR2 hb3; have a3 := hR3.v0; have b3 := hR3.v1; have c3 := hR3.f0; have d3 := hR3.f1)
        | (go_at_call 111; refine (or_any (lowV n k) (vleft (wdN n k) ((k : Int) * 32).toNat) _).mono ?_; rintro e w4 ⟨rfl, hb4⟩; have hR4 := ValAt.call hR3 hb4; have a4 := hR4.v0; have b4 := hR4.v1; have c4 := hR4.f0; have d4 := hR4.f1))
      all_goals go_wp2
      all_goals go_roundw
      all_goals go_light
      all_goals try (case measure => simp [intOf]; omega)
      all_goals have e : lowV n k ||| vleft (wdN n k) (k * 32) = lowV n (k + 1) := HS.out
      all_goals rw [e]
      all_goals exact ⟨k + 1, by omega, by simp, hR4.set (k + 1)⟩
    · have e : k = 4 := by omega
      subst e
      have r0 := hR.r0
      have r1 := hR.r1
      have q0 := hR.q0
      have q1 := hR.q1
      have v0 := hR.v0
      have v1 := hR.v1
      have hnv := hR.nv
      rw [HL.out] at v0 v1
      go_wp2
      refine bodyPost_ret (v := .tuple #[.agg #[.int .u64 (hi n), .int .u64 (lo n)], .bool true]) (by simp [results, Tryd.results109, go_sem, r0, r1]) rfl ⟨rfl, ?_⟩
      exact store2 hR.below (by omega) _ _
set_option maxRecDepth 100000 in
set_option maxHeartbeats 2000000 in
theorem nn_val_no (z : Int) (h : Rg z) (hI : isV z = false) (w : World) : Calls Tryd.prog 109 #[nV z] w (RetVB 0 false w) := by
  rw [nV_lit]
  go_enter Tryd.func109, Tryd.ntmps109
  go_wp2_with (go_at_call 98; refine (nn_isv z h _).mono ?_; rintro e w1 ⟨rfl, hb⟩; rw [hI]; obtain ⟨hc, hf, hz⟩ := after (w.heap.size + 2) hb (by simp) (by simp))
  refine bodyPost_ret (v := .tuple #[.agg #[.int .u64 0, .int .u64 0], .bool false]) (by simp [results, Tryd.results109, go_sem, hc]) rfl ⟨rfl, ?_⟩
  exact store2 ((((Below.refl _ _).alloc (by simp) _).alloc (by simp) _).trans (hb.mono (by simp; omega))) (by omega) _ _
end
end Go.Proofs.YtodmkmoglchoeaaDoor
