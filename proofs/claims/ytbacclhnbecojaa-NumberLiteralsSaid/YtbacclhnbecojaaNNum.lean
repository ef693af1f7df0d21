/- Package number: what its functions return, modulo 2^192. -/
import Derived.Test.YtbacclhnbecojaaNPure
import Derived.Test.YtbacclhnbecojaaJBits
import Derived.Deep.AppendLies
namespace Go.Proofs.Ytbacclhnbecojaa
open Go.RowKit

/-- the words of z, as cells -/
def wV (z : Int) (i : Nat) : Value := .int .u32 (wd z i)
/-- the Number of z: only what z is modulo 2^192 -/
def nV (z : Int) : Value := .agg (rowA 6 (wV z))
theorem nV_def (z : Int) : nV z = .agg (rowA 6 (wV z)) := rfl
theorem nV_mod (z : Int) : nV (z % pw 6) = nV z := by
  unfold nV
  exact congrArg _ (rowA_congr fun i hi => by unfold wV; rw [wd_mod z i hi])
theorem nV_words {a b : Int} (h : nV a = nV b) : ∀ k, k < 6 → wd a k = wd b k := by
  intro k hk
  unfold nV at h
  injection h with h
  have h2 := congrArg (fun x : Array Value => x[k]?) h
  simp only [rowA_get 6 _ k hk] at h2
  injection h2 with h2
  unfold wV at h2
  injection h2
theorem nV_inj {a b : Int} (ha : Rg a) (hb : Rg b) (h : nV a = nV b) : a = b := words_inj ha hb (nV_words h)
/-- The call returns the Number of z; nothing that there was is changed. -/
def RetN (z : Int) (w : World) (e : Ending) (w' : World) : Prop := e = .returned (.agg #[.int .u32 (wd z 0), .int .u32 (wd z 1), .int .u32 (wd z 2), .int .u32 (wd z 3), .int .u32 (wd z 4), .int .u32 (wd z 5)]) ∧ Below w.heap.size w w'
theorem nV_lit (z : Int) : nV z = .agg #[.int .u32 (wd z 0), .int .u32 (wd z 1), .int .u32 (wd z 2), .int .u32 (wd z 3), .int .u32 (wd z 4), .int .u32 (wd z 5)] := rfl

set_option maxRecDepth 100000 in
theorem zero_num (w : World) : (zeroValue 27).run Try.prog w = .ok (.agg (rowA 6 fun _ => .int .u32 0)) w := by kernel_rfl
set_option maxRecDepth 100000 in
theorem info_num : (Try.prog.info? 27).map (·.size) = some 6 := by kernel_rfl
theorem wV_one (z : Int) : ∀ i, i < 6 → (wV z i).oneCell' = true := fun _ _ => rfl

/-! a whole number: loaded, stored, handed back -/
section
variable {w : World} {b : Nat} {f : Nat → Value}
set_option maxRecDepth 100000 in
theorem wpList_load_num {ops : Array Oper} {rest : List Oper} {op : Oper} {a : Act} {Q : Exit → Act → World → Prop} (hgd : op.guard = none) {x : Operand} (ho : op.op = .load 27 x)
    (hx : a.eval x = .pointer (some ⟨b, 0, none⟩)) (h : RowAt w b 6 f) (K : wpList Try.prog ops Q rest (a.put op.dst (.agg (rowA 6 f))) w) : wpList Try.prog ops Q (op :: rest) a w :=
  wpList_load_mid hgd 27 x ho b 0 hx (rowL 6 f) _ h.range Try.underlying27 rfl (by rw [rowL_len]; exact info_num) K
set_option maxRecDepth 100000 in
theorem wpList_store_num (h1 : ∀ i, i < 6 → (f i).oneCell' = true)
    {ops : Array Oper} {rest : List Oper} {op : Oper} {a : Act} {Q : Exit → Act → World → Prop} (hgd : op.guard = none) {x y : Operand} (ho : op.op = .store 27 x y)
    (hx : a.eval x = .pointer (some ⟨b, 0, none⟩)) (hy : a.eval y = .agg (rowA 6 f)) (h : w.there b 0 6) (K : wpList Try.prog ops Q rest (a.put op.dst undef) (w.setCells b 0 (rowL 6 f))) : wpList Try.prog ops Q (op :: rest) a w :=
  wpList_store_row info_num h1 hgd ho hx hy h K
set_option maxRecDepth 100000 in
theorem loadAt_num (h : RowAt w b 6 f) : (Instr.loadAt 27 (.pointer (some ⟨b, 0, none⟩))).run Try.prog w = .ok (.agg (rowA 6 f)) w :=
  run_loadAt_mid w b 0 27 (rowL 6 f) _ h.range Try.underlying27 rfl (by rw [rowL_len]; exact info_num)
set_option maxRecDepth 100000 in
theorem loadVar_num (h : RowAt w b 6 f) : (loadVar 27 ⟨b, 0, none⟩).run Try.prog w = .ok (.agg (rowA 6 f)) w :=
  run_loadVar_mid w b 0 27 (rowL 6 f) _ h.range Try.underlying27 rfl (by rw [rowL_len]; exact info_num)
set_option maxRecDepth 100000 in
theorem storeAt_num (h1 : ∀ i, i < 6 → (f i).oneCell' = true) (h : w.there b 0 6) : (Instr.storeAt 27 (.pointer (some ⟨b, 0, none⟩)) (.agg (rowA 6 f))).run Try.prog w = .ok () (w.setCells b 0 (rowL 6 f)) := by
  have := run_storeAt_mid (P := Try.prog) w b 0 27 (rowA 6 f) (by rw [rowA_size]; exact h) (by rw [rowA_size]; exact info_num) (all_oneCell_toArray (rowL_one h1))
  simpa [rowA] using this
set_option maxRecDepth 100000 in
theorem results_num {fn : Func} {p : Tmp} (hr : fn.results = #[.cell p 27]) {tmps : Array Value} (hp : tmps[p]?.getD undef = .pointer (some ⟨b, 0, none⟩)) (h : RowAt w b 6 f) :
    (results fn tmps).run Try.prog w = .ok (.agg (rowA 6 f)) w := by
  have e := loadVar_num h
  simp only [results, hr]
  simp [hp, asAddr, e]
end

structure SumAt (w : World) (a b c : Int) (k : Nat) (w' : World) : Prop where
  below : Below w.heap.size w w'
  size : w.heap.size + 4 ≤ w'.heap.size
  ra : RowAt w' w.heap.size 6 (wV a)
  rb : RowAt w' (w.heap.size + 1) 6 (wV b)
  res : RowAt w' (w.heap.size + 2) 6 fun _ => .int .u32 0
  out : RowAt w' (w.heap.size + 3) 6 fun i => .int .u32 (if i < k then wd (a + b + c) i else 0)
theorem SumAt.drew {w w' : World} {a b c : Int} {k : Nat} (h : SumAt w a b c k w') : SumAt w a b c k w'.drew :=
  ⟨h.below.drew, h.size, h.ra.drew, h.rb.drew, h.res.drew, h.out.drew⟩
theorem SumAt.drewN {w w' : World} {a b c : Int} {k n : Nat} (h : SumAt w a b c k w') : SumAt w a b c k (w'.drewN n) := by
  induction n with
  | zero => exact h
  | succ n ih => exact ih.drew
theorem put_if (f : Nat → Int) (k i : Nat) : (Value.int .u32 (if i < k + 1 then f i else 0)) = if i = k then .int .u32 (f k) else .int .u32 (if i < k then f i else 0) := by
  by_cases h : i = k
  · subst h; simp
  · rw [if_neg h]
    by_cases h' : i < k
    · rw [if_pos h', if_pos (by omega)]
    · rw [if_neg h', if_neg (by omega)]
theorem SumAt.next {w w' : World} {a b c : Int} {k : Nat} (h : SumAt w a b c k w') (hk : k < 6) (x : Int) (hx : x = wd (a + b + c) k) :
    SumAt w a b c (k + 1) (w'.setCell ⟨w.heap.size + 3, k, none⟩ (.int .u32 x)) := by
  subst hx
  exact ⟨h.below.setCell (by simp) _, by rw [World.size_setCell]; exact h.size, h.ra.far _ (by simp) _, h.rb.far _ (by simp) _, h.res.far _ (by simp) _, h.out.put k hk _ (fun i _ => put_if _ k i)⟩

set_option maxRecDepth 100000 in
set_option maxHeartbeats 1000000 in
theorem nn_sum (a b c : Int) (h0 : 0 ≤ c) (h1 : c ≤ 1) (w : World) :
    Calls Try.prog 32 #[nV a, nV b, .int .u64 c] w (RetN (a + b + c) w) := by
  rw [nV_def, nV_def]
  have C0 := Lib.hid (cy_0 a b c)
  go_enter Try.func32, Try.ntmps32
  go_wp2_with (simp only [zero_num])
  go_loopw [2, 9] (fun t i w' => ∃ k : Nat, k ≤ 6 ∧ i = .int .i64 k ∧ t = .int .u64 (cy a b c k) ∧ SumAt w a b c k w') (fun _ i _ => 6 - (intOf i).toNat)
  case atStart =>
    have z : #[Value.int IntKind.u32 0, .int .u32 0, .int .u32 0, .int .u32 0, .int .u32 0, .int .u32 0] = rowA 6 fun _ => .int .u32 0 := rfl
    refine ⟨0, by omega, rfl, by rw [C0.out], ?_⟩
    rw [z]
    have h0 := RowAt.new w 6 (wV a) 27
    have h1 := RowAt.new (w.alloc (.cells (rowA 6 (wV a)) 27)) 6 (wV b) 27
    have h2 := RowAt.new ((w.alloc (.cells (rowA 6 (wV a)) 27)).alloc (.cells (rowA 6 (wV b)) 27)) 6 (fun _ => .int .u32 0) 27
    have h3 := RowAt.new (((w.alloc (.cells (rowA 6 (wV a)) 27)).alloc (.cells (rowA 6 (wV b)) 27)).alloc (.cells (rowA 6 fun _ => .int .u32 0) 27)) 6 (fun _ => .int .u32 0) 27
    simp only [World.size_alloc] at h1 h2 h3
    exact ⟨((((Below.refl _ _).alloc (by simp) _).alloc (by simp) _).alloc (by simp; try omega) _).alloc (by simp; try omega) _, by simp,
      ((h0.past (by simp) _).past (by simp; try omega) _).past (by simp; try omega) _, (h1.past (by simp) _).past (by simp; try omega) _, h2.past (by simp; try omega) _, RowAt.congr (f := fun _ => .int .u32 0) h3 (fun i _ => by simp)⟩
  case round =>
    obtain ⟨k, hk, rfl, rfl, hR⟩ := hrel
    have b0 := cy_b a b c h0 h1 k
    by_cases hlt : (k : Int) < 6
    · have i0 : wr.cell? ⟨w.heap.size, k, none⟩ = some (.int .u32 (wd a k)) := hR.ra.cell k (by omega)
      have i1 : wr.cell? ⟨w.heap.size + 1, k, none⟩ = some (.int .u32 (wd b k)) := hR.rb.cell k (by omega)
      have i2 : wr.cell? ⟨w.heap.size + 3, k, none⟩ = some _ := hR.out.cell k (by omega)
      have i3 : wr.frozen? ⟨w.heap.size + 3, k, none⟩ = false := hR.out.froz k (by omega)
      have w0 := wd_0 a k
      have w1 := wd_1 a k
      have w2 := wd_0 b k
      have w3 := wd_1 b k
      go_wp2_with fail
      go_quiet (fail)
      go_wp2
      go_roundw
      case rel =>
        go_light
        exact ⟨k + 1, by omega, by simp, by rw [cy_succ], hR.drewN.next (by omega) _ (by rw [wd_sum])⟩
      case measure => simp [intOf]; omega
    · have e : k = 6 := by omega
      subst e
      go_wp2_with (first | refine wpList_load_num rfl rfl rfl hR.out ?_ | refine wpList_store_num (fun _ _ => rfl) rfl rfl rfl rfl hR.res.there ?_)
      go_light
      have hB := RowAt.stored hR.res.there fun i => Value.int IntKind.u32 (if i < 6 then wd (a + b + c) i else 0)
      have e : (rowA 6 fun i => Value.int IntKind.u32 (if i < 6 then wd (a + b + c) i else 0)) = rowA 6 (wV (a + b + c)) := rowA_congr fun i hi => by rw [if_pos hi]; rfl
      refine bodyPost_ret (v := nV (a + b + c)) (by rw [nV_def, ← e]; exact results_num rfl rfl hB) rfl ⟨rfl, ?_⟩
      exact belowCells hR.below (by omega) _ _
end Go.Proofs.Ytbacclhnbecojaa
