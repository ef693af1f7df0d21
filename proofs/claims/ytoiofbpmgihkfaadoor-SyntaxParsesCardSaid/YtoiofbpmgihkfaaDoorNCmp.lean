/- Package number: Compare of two that are not equal. -/
import Derived.Test.YtoiofbpmgihkfaaDoorNNum5
import Derived.Deep.DeepCutAuto
namespace Go.Proofs.YtoiofbpmgihkfaaDoor
open Go.RowKit

/-- a callee that changes nothing, behind an elder draw -/
theorem quiet_behind {P : Program} {f : FuncId} {args : Array Value} {w : World} {a n : Nat} {v : Value} (h : Calls P f args (w.drewN (a + n)) fun e w' => e = .returned v ∧ w.drewN (a + n) = w') :
    Calls P f args (w.drewN (a + n)) fun e w'' => e = .returned v ∧ ∃ m, w'' = w.drewN (a + m) :=
  h.mono fun _ _ h => ⟨h.1, n, h.2.symm⟩
/-- two numbers in their boxes -/
structure TwoN (w : World) (a b : Int) (w' : World) : Prop where
  below : Below w.heap.size w w'
  size : w.heap.size + 2 ≤ w'.heap.size
  ra : RowAt w' w.heap.size 6 (wV a)
  rb : RowAt w' (w.heap.size + 1) 6 (wV b)
theorem TwoN.begun (w : World) (a b : Int) : TwoN w a b ((w.alloc (.cells #[.int .u32 (wd a 0), .int .u32 (wd a 1), .int .u32 (wd a 2), .int .u32 (wd a 3), .int .u32 (wd a 4), .int .u32 (wd a 5)] 107)).alloc (.cells #[.int .u32 (wd b 0), .int .u32 (wd b 1), .int .u32 (wd b 2), .int .u32 (wd b 3), .int .u32 (wd b 4), .int .u32 (wd b 5)] 107)) := by
  have h0 := RowAt.new w 6 (wV a) 107
  have h1 := RowAt.new (w.alloc (.cells (rowA 6 (wV a)) 107)) 6 (wV b) 107
  simp only [World.size_alloc] at h1
  exact ⟨((Below.refl _ _).alloc (by simp) _).alloc (by simp) _, by simp, h0.past (by simp) _, h1⟩
theorem TwoN.call {w w1 w2 : World} {a b : Int} (h : TwoN w a b w1) (hb : Below w1.heap.size w1 w2) : TwoN w a b w2 :=
  ⟨h.below.trans (hb.mono (by have := h.size; omega)), Nat.le_trans h.size hb.size, h.ra.below hb (by have := h.size; omega), h.rb.below hb (by have := h.size; omega)⟩
theorem TwoN.drew {w w1 : World} {a b : Int} (h : TwoN w a b w1) : TwoN w a b w1.drew := ⟨h.below.drew, h.size, h.ra.drew, h.rb.drew⟩
theorem TwoN.drewN {w w' : World} {a b : Int} {n : Nat} (h : TwoN w a b w') : TwoN w a b (w'.drewN n) := by
  induction n with
  | zero => exact h
  | succ n ih => exact ih.drew
theorem TwoN.cells {w w' : World} {a b : Int} (h : TwoN w a b w') (k : Nat) (hk : k < 6) : w'.cell? ⟨w.heap.size, k, none⟩ = some (.int .u32 (wd a k)) ∧ w'.cell? ⟨w.heap.size + 1, k, none⟩ = some (.int .u32 (wd b k)) := ⟨h.ra.cell k hk, h.rb.cell k hk⟩
end Go.Proofs.YtoiofbpmgihkfaaDoor
