/- Package number: what its functions return, modulo 2^192. -/
import Derived.Test.YtoiofbpmgihkfaaDoorNPure
import Derived.Test.YtoiofbpmgihkfaaDoorJBits
import Derived.Deep.AppendLies
namespace Go.Proofs.YtoiofbpmgihkfaaDoor
open Go.RowKit

/-- the words of z, as cells -/
def wV (z : Int) (i : Nat) : Value := .int .u32 (wd z i)
/-- the Number of z: only what z is modulo 2^192 -/
def nV (z : Int) : Value := .agg (rowA 6 (wV z))
theorem nV_def (z : Int) : nV z = .agg (rowA 6 (wV z)) := rfl
theorem nV_mod (z : Int) : nV (z % pw 6) = nV z := by
  unfold nV
  exact congrArg _ (rowA_congr fun i hi => by unfold wV; rw [wd_mod z i hi])
theorem nV_words {a b : Int} (h : nV a = nV b) : ∀ k, k < 6 → wd a k = wd b k := by
  intro k hk
  unfold nV at h
  injection h with h
  have h2 := congrArg (fun x : Array Value => x[k]?) h
  simp only [rowA_get 6 _ k hk] at h2
  injection h2 with h2
  unfold wV at h2
  injection h2
theorem nV_inj {a b : Int} (ha : Rg a) (hb : Rg b) (h : nV a = nV b) : a = b := words_inj ha hb (nV_words h)
/-- The call returns the Number of z; nothing that there was is changed. -/
def RetN (z : Int) (w : World) (e : Ending) (w' : World) : Prop := e = .returned (.agg #[.int .u32 (wd z 0), .int .u32 (wd z 1), .int .u32 (wd z 2), .int .u32 (wd z 3), .int .u32 (wd z 4), .int .u32 (wd z 5)]) ∧ Below w.heap.size w w'
theorem nV_lit (z : Int) : nV z = .agg #[.int .u32 (wd z 0), .int .u32 (wd z 1), .int .u32 (wd z 2), .int .u32 (wd z 3), .int .u32 (wd z 4), .int .u32 (wd z 5)] := rfl

set_option maxRecDepth 100000 in
theorem zero_num (w : World) : (zeroValue 107).run Tryd.prog w = .ok (.agg (rowA 6 fun _ => .int .u32 0)) w := by kernel_rfl
set_option maxRecDepth 100000 in
theorem info_num : (Tryd.prog.info? 107).map (·.size) = some 6 := by kernel_rfl
theorem wV_one (z : Int) : ∀ i, i < 6 → (wV z i).oneCell' = true := fun _ _ => rfl

/-! a whole number: loaded, stored, handed back -/
section
variable {w : World} {b : Nat} {f : Nat → Value}
set_option maxRecDepth 100000 in
theorem wpList_load_num {ops : Array Oper} {rest : List Oper} {op : Oper} {a : Act} {Q : Exit → Act → World → Prop} (hgd : op.guard = none) {x : Operand} (ho : op.op = .load 107 x)
    (hx : a.eval x = .pointer (some ⟨b, 0, none⟩)) (h : RowAt w b 6 f) (K : wpList Tryd.prog ops Q rest (a.put op.dst (.agg (rowA 6 f))) w) : wpList Tryd.prog ops Q (op :: rest) a w :=
  wpList_load_mid hgd 107 x ho b 0 hx (rowL 6 f) _ h.range Tryd.underlying107 rfl (by rw [rowL_len]; exact info_num) K
set_option maxRecDepth 100000 in
theorem wpList_store_num (h1 : ∀ i, i < 6 → (f i).oneCell' = true)
    {ops : Array Oper} {rest : List Oper} {op : Oper} {a : Act} {Q : Exit → Act → World → Prop} (hgd : op.guard = none) {x y : Operand} (ho : op.op = .store 107 x y)
    (hx : a.eval x = .pointer (some ⟨b, 0, none⟩)) (hy : a.eval y = .agg (rowA 6 f)) (h : w.there b 0 6) (K : wpList Tryd.prog ops Q rest (a.put op.dst undef) (w.setCells b 0 (rowL 6 f))) : wpList Tryd.prog ops Q (op :: rest) a w :=
  wpList_store_row info_num h1 hgd ho hx hy h K
set_option maxRecDepth 100000 in
theorem loadAt_num (h : RowAt w b 6 f) : (Instr.loadAt 107 (.pointer (some ⟨b, 0, none⟩))).run Tryd.prog w = .ok (.agg (rowA 6 f)) w :=
  run_loadAt_mid w b 0 107 (rowL 6 f) _ h.range Tryd.underlying107 rfl (by rw [rowL_len]; exact info_num)
set_option maxRecDepth 100000 in
theorem loadVar_num (h : RowAt w b 6 f) : (loadVar 107 ⟨b, 0, none⟩).run Tryd.prog w = .ok (.agg (rowA 6 f)) w :=
  run_loadVar_mid w b 0 107 (rowL 6 f) _ h.range Tryd.underlying107 rfl (by rw [rowL_len]; exact info_num)
set_option maxRecDepth 100000 in
theorem storeAt_num (h1 : ∀ i, i < 6 → (f i).oneCell' = true) (h : w.there b 0 6) : (Instr.storeAt 107 (.pointer (some ⟨b, 0, none⟩)) (.agg (rowA 6 f))).run Tryd.prog w = .ok () (w.setCells b 0 (rowL 6 f)) := by
  have := run_storeAt_mid (P := Tryd.prog) w b 0 107 (rowA 6 f) (by rw [rowA_size]; exact h) (by rw [rowA_size]; exact info_num) (all_oneCell_toArray (rowL_one h1))
  simpa [rowA] using this
set_option maxRecDepth 100000 in
theorem results_num {fn : Func} {p : Tmp} (hr : fn.results = #[.cell p 107]) {tmps : Array Value} (hp : tmps[p]?.getD undef = .pointer (some ⟨b, 0, none⟩)) (h : RowAt w b 6 f) :
    (results fn tmps).run Tryd.prog w = .ok (.agg (rowA 6 f)) w := by
  have e := loadVar_num h
  simp only [results, hr]
  simp [hp, asAddr, e]
end

structure SumAt (w : World) (a b c : Int) (k : Nat) (w' : World) : Prop where
  below : Below w.heap.size w w'
  size : w.heap.size + 4 ≤ w'.heap.size
  ra : RowAt w' w.heap.size 6 (wV a)
  rb : RowAt w' (w.heap.size + 1) 6 (wV b)
  res : RowAt w' (w.heap.size + 2) 6 fun _ => .int .u32 0
  out : RowAt w' (w.heap.size + 3) 6 fun i => .int .u32 (if i < k then wd (a + b + c) i else 0)
theorem SumAt.drew {w w' : World} {a b c : Int} {k : Nat} (h : SumAt w a b c k w') : SumAt w a b c k w'.drew :=
  ⟨h.below.drew, h.size, h.ra.drew, h.rb.drew, h.res.drew, h.out.drew⟩
theorem SumAt.drewN {w w' : World} {a b c : Int} {k n : Nat} (h : SumAt w a b c k w') : SumAt w a b c k (w'.drewN n) := by
  induction n with
  | zero => exact h
  | succ n ih => exact ih.drew
theorem put_if (f : Nat → Int) (k i : Nat) : (Value.int .u32 (if i < k + 1 then f i else 0)) = if i = k then .int .u32 (f k) else .int .u32 (if i < k then f i else 0) := by
  by_cases h : i = k
  · subst h; simp
  · rw [if_neg h]
    by_cases h' : i < k
    · rw [if_pos h', if_pos (by omega)]
    · rw [if_neg h', if_neg (by omega)]
theorem SumAt.next {w w' : World} {a b c : Int} {k : Nat} (h : SumAt w a b c k w') (hk : k < 6) (x : Int) (hx : x = wd (a + b + c) k) :
    SumAt w a b c (k + 1) (w'.setCell ⟨w.heap.size + 3, k, none⟩ (.int .u32 x)) := by
  subst hx
  exact ⟨h.below.setCell (by simp) _, by rw [World.size_setCell]; exact h.size, h.ra.far _ (by simp) _, h.rb.far _ (by simp) _, h.res.far _ (by simp) _, h.out.put k hk _ (fun i _ => put_if _ k i)⟩

end Go.Proofs.YtoiofbpmgihkfaaDoor
