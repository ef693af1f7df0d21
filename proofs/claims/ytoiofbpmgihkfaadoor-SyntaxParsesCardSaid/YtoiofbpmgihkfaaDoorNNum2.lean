/- Package number: complement, extend, divide, Of, From. -/
import Derived.Test.YtoiofbpmgihkfaaDoorNNum
namespace Go.Proofs.YtoiofbpmgihkfaaDoor
open Go.RowKit

set_option maxRecDepth 100000 in
theorem info_six : (Tryd.prog.info? 105).map (·.size) = some 6 := by kernel_rfl
set_option maxRecDepth 100000 in
theorem wpList_load_six {w : World} {b : Nat} {f : Nat → Value} {ops : Array Oper} {rest : List Oper} {op : Oper} {a : Act} {Q : Exit → Act → World → Prop} (hgd : op.guard = none) {x : Operand} (ho : op.op = .load 105 x)
    (hx : a.eval x = .pointer (some ⟨b, 0, none⟩)) (h : RowAt w b 6 f) (K : wpList Tryd.prog ops Q rest (a.put op.dst (.agg (rowA 6 f))) w) : wpList Tryd.prog ops Q (op :: rest) a w :=
  wpList_load_row Tryd.underlying105 info_six hgd ho hx h K
set_option maxRecDepth 100000 in
theorem index_six (f : Nat → Value) (i : Nat) (h : i < 6) (w : World) :
    (Instr.index 105 (.agg (rowA 6 f)) (.int .i64 (i : Int))).run Tryd.prog w = .ok (f i) w := by
  have hs : (sizeOf 104).run Tryd.prog w = .ok 1 w := by kernel_rfl
  have ha : (isAgg 104).run Tryd.prog w = .ok false w := by kernel_rfl
  have hi : (0 : Int) ≤ (i : Int) ∧ (i : Int) < ((6 : Nat) : Int) := by omega
  simp only [Instr.index, asIntOf, Sem.run_bind, Sem.run_pure, Result.andThen, run_underlying Tryd.underlying105]
  rw [if_pos hi]
  simp only [part, Sem.run_bind, ha, hs, Result.andThen, Int.toNat_natCast, Nat.mul_one, rowA_get 6 f i h]
  rfl

theorem not_u32 (x : Int) (h0 : 0 ≤ x) (h1 : x < 4294967296) : bits .xor .u32 (if IntKind.u32.signed = true then -1 else IntKind.u32.max) x = 4294967295 - x := by
  obtain ⟨n, rfl⟩ := Int.eq_ofNat_of_zero_le h0
  have hn : n < 4294967296 := by omega
  have e : (if IntKind.u32.signed = true then -1 else IntKind.u32.max) = ((4294967295 : Nat) : Int) := rfl
  rw [e, u32_xor_nat _ _ (by decide) hn]
  have h := BitVec.toNat_not (x := BitVec.ofNat 32 n)
  rw [BitVec.not_def, BitVec.toNat_xor, BitVec.toNat_ofNat, BitVec.toNat_allOnes, Nat.mod_eq_of_lt (by omega)] at h
  have h2 : 4294967295 ^^^ n = 4294967295 - n := h
  rw [h2]; omega
theorem or_u64 (r x : Int) (h0 : 0 ≤ r) (h1 : r < 4294967296) (x0 : 0 ≤ x) (x1 : x < 4294967296) : bits .or .u64 (r * 4294967296) x = r * 4294967296 + x := by
  obtain ⟨a, rfl⟩ := Int.eq_ofNat_of_zero_le h0
  obtain ⟨b, rfl⟩ := Int.eq_ofNat_of_zero_le x0
  have e : (a : Int) * 4294967296 = ((a * 4294967296 : Nat) : Int) := by omega
  rw [e, u64_or_nat _ _ (by omega) (by omega)]
  have h := Nat.shiftLeft_add_eq_or_of_lt (i := 32) (b := b) (by omega) a
  rw [Nat.shiftLeft_eq] at h
  have h2 : a * 4294967296 + b = a * 4294967296 ||| b := h
  rw [← h2]; omega
/-- a number in a box whose words up to k have turned from f into g, and a result -/
structure TurnAt (w : World) (f g : Nat → Int) (k : Nat) (w' : World) : Prop where
  below : Below w.heap.size w w'
  size : w.heap.size + 2 ≤ w'.heap.size
  res : RowAt w' (w.heap.size + 1) 6 fun _ => .int .u32 0
  out : RowAt w' w.heap.size 6 fun i => .int .u32 (if i < k then g i else f i)
theorem TurnAt.drew {w w' : World} {f g : Nat → Int} {k : Nat} (h : TurnAt w f g k w') : TurnAt w f g k w'.drew :=
  ⟨h.below.drew, h.size, h.res.drew, h.out.drew⟩
theorem TurnAt.drewN {w w' : World} {f g : Nat → Int} {k n : Nat} (h : TurnAt w f g k w') : TurnAt w f g k (w'.drewN n) := by
  induction n with
  | zero => exact h
  | succ n ih => exact ih.drew
theorem turn_if (f g : Nat → Int) (k i : Nat) : (Value.int .u32 (if i < k + 1 then g i else f i)) = if i = k then .int .u32 (g k) else .int .u32 (if i < k then g i else f i) := by
  by_cases h : i = k
  · subst h; simp
  · rw [if_neg h]
    by_cases h' : i < k
    · rw [if_pos h', if_pos (by omega)]
    · rw [if_neg h', if_neg (by omega)]
theorem TurnAt.next {w w' : World} {f g : Nat → Int} {k : Nat} (h : TurnAt w f g k w') (hk : k < 6) (x : Int) (hx : x = g k) :
    TurnAt w f g (k + 1) (w'.setCell ⟨w.heap.size, k, none⟩ (.int .u32 x)) := by
  subst hx
  exact ⟨h.below.setCell (by simp) _, by rw [World.size_setCell]; exact h.size, h.res.far _ (by simp) _, h.out.put k hk _ (fun i _ => turn_if f g k i)⟩
theorem TurnAt.begun (w : World) (z : Int) (g : Nat → Int) : TurnAt w (wd z) g 0 ((w.alloc (.cells (rowA 6 (wV z)) 107)).alloc (.cells #[.int .u32 0, .int .u32 0, .int .u32 0, .int .u32 0, .int .u32 0, .int .u32 0] 107)) := by
  have z0 : #[Value.int IntKind.u32 0, .int .u32 0, .int .u32 0, .int .u32 0, .int .u32 0, .int .u32 0] = rowA 6 fun _ => .int .u32 0 := rfl
  rw [z0]
  have h0 := RowAt.new w 6 (wV z) 107
  have h1 := RowAt.new (w.alloc (.cells (rowA 6 (wV z)) 107)) 6 (fun _ => .int .u32 0) 107
  simp only [World.size_alloc] at h1
  exact ⟨((Below.refl _ _).alloc (by simp) _).alloc (by simp) _, by simp, h1, RowAt.congr (f := wV z) (h0.past (by simp) _) (fun i _ => by simp [wV])⟩
theorem TurnAt.first {w w' : World} {g : Nat → Int} {z : Int} (h : TurnAt w (wd z) g 0 w') : RowAt w' w.heap.size 6 (wV z) :=
  RowAt.congr h.out fun i _ => by simp [wV]
theorem TurnAt.done {w w' : World} {f g : Nat → Int} (h : TurnAt w f g 6 w') : RowAt w' w.heap.size 6 (fun i => .int .u32 (g i)) :=
  h.out.congr fun i hi => by rw [if_pos hi]

set_option maxRecDepth 100000 in
set_option maxHeartbeats 1000000 in
theorem nn_ext (a m d : Int) (hm : m ≤ 16) (h0 : 0 ≤ d) (h1 : d < m) (w : World) :
    Calls Tryd.prog 84 #[nV a, .int .u32 m, .int .u32 d] w (RetN (a * m + d) w) := by
  rw [nV_def]
  have C0 := Lib.hid (ce_0 a m d)
  go_enter Tryd.func84, Tryd.ntmps84
  go_wp2_with (first | simp only [zero_num] | refine wpList_load_six rfl rfl rfl (TurnAt.begun w a (wd a)).first ?_)
  go_loopw [7, 14] (fun t i w' => ∃ k : Nat, k ≤ 6 ∧ i = .int .i64 k ∧ t = .int .u64 (ce a m d k) ∧ TurnAt w (wd a) (wd (a * m + d)) k w') (fun _ i _ => 6 - (intOf i).toNat)
  case atStart => exact ⟨0, by omega, rfl, by rw [C0.out], TurnAt.begun w a _⟩
  case round =>
    obtain ⟨k, hk, rfl, rfl, hR⟩ := hrel
    have b0 := ce_b a m d hm h0 h1 k
    by_cases hlt : (k : Int) < 6
    · have i2 : wr.cell? ⟨w.heap.size, k, none⟩ = some _ := hR.out.cell k (by omega)
      have i3 : wr.frozen? ⟨w.heap.size, k, none⟩ = false := hR.out.froz k (by omega)
      have w0 := wd_0 a k
      have w1 := wd_1 a k
      have p0 : 0 ≤ wd a k * m := Int.mul_nonneg w0 (by omega)
      have p1 : wd a k * m ≤ 4294967295 * 16 := Int.le_trans (Int.mul_le_mul_of_nonneg_right (by omega) (by omega)) (Int.mul_le_mul_of_nonneg_left hm (by decide))
      go_wp2_with (simp only [index_six (wV a) k (by omega), wV])
      go_roundw
      case rel =>
        go_light
        exact ⟨k + 1, by omega, by simp, by rw [ce_succ], hR.next (by omega) _ (by rw [wd_ext])⟩
      case measure => simp [intOf]; omega
    · have e : k = 6 := by omega
      subst e
      go_wp2_with (first | refine wpList_load_num rfl rfl rfl hR.done ?_ | refine wpList_store_num (fun _ _ => rfl) rfl rfl rfl rfl hR.res.there ?_)
      go_light
      have hB := RowAt.stored hR.res.there (wV (a * m + d))
      refine bodyPost_ret (v := nV (a * m + d)) (by exact results_num rfl rfl hB) rfl ⟨rfl, ?_⟩
      exact belowCells hR.below (by omega) _ _

/-- a number in a box whose words from k on have turned from f into g, and a result -/
structure DownAt (w : World) (f g : Nat → Int) (k : Nat) (w' : World) : Prop where
  below : Below w.heap.size w w'
  size : w.heap.size + 2 ≤ w'.heap.size
  res : RowAt w' (w.heap.size + 1) 6 fun _ => .int .u32 0
  out : RowAt w' w.heap.size 6 fun i => .int .u32 (if i < k then f i else g i)
theorem DownAt.next {w w' : World} {f g : Nat → Int} {k : Nat} (h : DownAt w f g (k + 1) w') (hk : k < 6) (x : Int) (hx : x = g k) :
    DownAt w f g k (w'.setCell ⟨w.heap.size, k, none⟩ (.int .u32 x)) := by
  subst hx
  refine ⟨h.below.setCell (by simp) _, by rw [World.size_setCell]; exact h.size, h.res.far _ (by simp) _, h.out.put k hk _ (fun i _ => ?_)⟩
  by_cases e : i = k
  · subst e; simp
  · rw [if_neg e]
    by_cases h' : i < k
    · rw [if_pos h', if_pos (by omega)]
    · rw [if_neg h', if_neg (by omega)]
theorem DownAt.begun (w : World) (z : Int) (g : Nat → Int) : DownAt w (wd z) g 6 ((w.alloc (.cells (rowA 6 (wV z)) 107)).alloc (.cells #[.int .u32 0, .int .u32 0, .int .u32 0, .int .u32 0, .int .u32 0, .int .u32 0] 107)) :=
  have h := TurnAt.begun w z (wd z)
  ⟨h.below, h.size, h.res, RowAt.congr h.out fun i hi => by simp [hi]⟩
theorem DownAt.done {w w' : World} {f g : Nat → Int} (h : DownAt w f g 0 w') : RowAt w' w.heap.size 6 (fun i => .int .u32 (g i)) :=
  h.out.congr fun i hi => by rw [if_neg (by omega)]
theorem rs_6 (u m : Int) (h0 : 0 ≤ u) (h1 : u < pw 6) : rs u m 6 = 0 := by
  unfold rs; rw [Int.ediv_eq_zero_of_lt h0 h1]; exact Int.zero_emod m
theorem rs_0 (u m : Int) : rs u m 0 = u % m := by unfold rs; rw [pw_0, Int.ediv_one]
/-- The call returns the Number of z and the rest d. -/
def RetNR (z d : Int) (w : World) (e : Ending) (w' : World) : Prop := e = .returned (.tuple #[.agg #[.int .u32 (wd z 0), .int .u32 (wd z 1), .int .u32 (wd z 2), .int .u32 (wd z 3), .int .u32 (wd z 4), .int .u32 (wd z 5)], .int .u32 d]) ∧ Below w.heap.size w w'

end Go.Proofs.YtoiofbpmgihkfaaDoor
