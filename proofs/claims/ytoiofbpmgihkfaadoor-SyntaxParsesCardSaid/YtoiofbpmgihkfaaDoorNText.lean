/- Package number: Text. -/
import Derived.Test.YtoiofbpmgihkfaaDoorNRev
import Derived.Test.YtoiofbpmgihkfaaDoorNDig
import Derived.Test.YtoiofbpmgihkfaaDoorJParse
import Derived.Deep.CutRange
import Derived.Deep.DeepCutAuto
namespace Go.Proofs.YtoiofbpmgihkfaaDoor
open Go.RowKit

theorem wd_zero (k : Nat) : wd 0 k = 0 := by unfold wd; rw [Int.zero_ediv]; rfl
set_option maxRecDepth 100000 in
/-- a number against zero, as a walk comes to it -/
theorem eqz_six (u : Int) (hu : Rg u) (b : Bool) (hb : decide (u = 0) = b) (w : World) : (Op.equalIn 9999 105 (.agg #[.int .u32 (wd u 0), .int .u32 (wd u 1), .int .u32 (wd u 2), .int .u32 (wd u 3), .int .u32 (wd u 4), .int .u32 (wd u 5)]) (.agg #[.int .u32 0, .int .u32 0, .int .u32 0, .int .u32 0, .int .u32 0, .int .u32 0])).run Tryd.prog w = .ok b w := by
  have h := six_eq u 0 hu (by unfold Rg; decide)
  rw [wd_zero, wd_zero, wd_zero, wd_zero, wd_zero, wd_zero] at h
  rw [eqc_six 9997, h, hb]
def lenV : Value → Nat
  | .slice _ n _ => n
  | _ => 0
/-- the cells of digits as bytes -/
def tcs (ys : List Nat) : List Value := (tb ys).map (Value.int .u8)
theorem tcs_snoc (ys : List Nat) (d : Nat) : tcs (ys ++ [d]) = tcs ys ++ [.int .u8 (48 + (d : Int))] := by simp [tcs, tb_snoc]
theorem tcs_len (ys : List Nat) : (tcs ys).length = ys.length := by simp [tcs, tb_len]
structure TextAt (w : World) (z : Int) (r : Nat) (v : Value) (ys : List Nat) (w' : World) : Prop where
  below : Below w.heap.size w w'
  lt : w.heap.size + 2 ≤ w'.heap.size
  ra : RowAt w' w.heap.size 6 (wV z)
  rr : RowAt w' (w.heap.size + 1) 6 (wV r)
  own : w'.ownsRow (w.heap.size + 2) 5 1 v ys.length (tcs ys)
theorem byte_add (d : Nat) (h : d < 10) : IntKind.u8.wrap (48 + (d : Int)) = 48 + (d : Int) := by
  simp only [IntKind.wrap, IntKind.signed, IntKind.bits]
  simp; omega
theorem row6 {w : World} {b : Nat} {z : Int} {f : Nat → Value} (h : RowAt w b 6 f) : RowAt ((((((w.setCell ⟨b, 0, none⟩ (.int .u32 (wd z 0))).setCell ⟨b, 1, none⟩ (.int .u32 (wd z 1))).setCell ⟨b, 2, none⟩ (.int .u32 (wd z 2))).setCell ⟨b, 3, none⟩ (.int .u32 (wd z 3))).setCell ⟨b, 4, none⟩ (.int .u32 (wd z 4))).setCell ⟨b, 5, none⟩ (.int .u32 (wd z 5))) b 6 (wV z) :=
  RowAt.stored h.there (wV z)
theorem far6 {w : World} {b c : Nat} {f : Nat → Value} (h : RowAt w b 6 f) (hne : c ≠ b) (v0 v1 v2 v3 v4 v5 : Value) : RowAt ((((((w.setCell ⟨c, 0, none⟩ v0).setCell ⟨c, 1, none⟩ v1).setCell ⟨c, 2, none⟩ v2).setCell ⟨c, 3, none⟩ v3).setCell ⟨c, 4, none⟩ v4).setCell ⟨c, 5, none⟩ v5) b 6 f :=
  RowAt.farAll h hne 0 [v0, v1, v2, v3, v4, v5]
theorem grown6 (w : World) (c : Nat) (v0 v1 v2 v3 v4 v5 : Value) : w.grownBy ((((((w.setCell ⟨c, 0, none⟩ v0).setCell ⟨c, 1, none⟩ v1).setCell ⟨c, 2, none⟩ v2).setCell ⟨c, 3, none⟩ v3).setCell ⟨c, 4, none⟩ v4).setCell ⟨c, 5, none⟩ v5) (some c) := by
  have g : ∀ (w : World) (j : Nat) (v : Value), w.grownBy (w.setCell ⟨c, j, none⟩ v) (some c) := fun w j v => ⟨rfl, rfl, rfl, by rw [World.size_setCell]; exact Nat.le_refl _, fun k _ hk => heap_setCell_other w ⟨c, j, none⟩ k v (fun e => hk (by simp [e]))⟩
  exact grown_trans (grown_trans (grown_trans (grown_trans (grown_trans (g _ _ _) (g _ _ _)) (g _ _ _)) (g _ _ _)) (g _ _ _)) (g _ _ _)
theorem grown_of_below2 {w w' : World} (h : Below w.heap.size w w') (row : Option Nat) : w.grownBy w' row := ⟨h.os, h.tape, h.output, h.size, fun k hk _ => h.block k hk⟩
theorem own_block_ne {w : World} {B e sz n c : Nat} {v : Value} {l : List Value} (h : w.ownsRow B e sz v n l) (hc : c < B) : v.ownBlock = none ∨ v.ownBlock ≠ some c := by
  rcases h.2 with ⟨rfl, _⟩ | ⟨g, cap, cur, rfl, hb, _⟩
  · exact .inl rfl
  · refine .inr fun e => ?_
    injection e with e
    simp only at e
    omega
theorem own_below2 {w w' : World} {B e sz n : Nat} {v : Value} {l : List Value} (h : w.ownsRow B e sz v n l) (hb : Below w.heap.size w w') : w'.ownsRow B e sz v n l :=
  h.kept (grown_of_below2 hb none) (by cases v.ownBlock <;> simp)
theorem row_grown2 {w w' : World} {b n : Nat} {f : Nat → Value} {row : Option Nat} (h : RowAt w b n f) (hg : w.grownBy w' row) (hb : b < w.heap.size) (hr : some b ≠ row) : RowAt w' b n f :=
  ⟨fun i hi => by rw [World.cell?_of_block (a := ⟨b, i, none⟩) (hg.block b hb hr)]; exact h.cell i hi, fun i hi => by rw [World.frozen?_of_block (a := ⟨b, i, none⟩) (hg.block b hb hr)]; exact h.froz i hi⟩
theorem own_block_ge {w : World} {B e sz n k : Nat} {v : Value} {l : List Value} (h : w.ownsRow B e sz v n l) (hk : v.ownBlock = some k) : B ≤ k := by
  rcases h.2 with ⟨rfl, _⟩ | ⟨g, cap, cur, rfl, hb, _⟩
  · cases hk
  · injection hk with hk; simp only at hk; omega
theorem TextAt.app {w W W2 : World} {z : Int} {r d : Nat} {v v' : Value} {ys : List Nat} (h : TextAt w z r v ys W) (o : Obj)
    (hO : W2.ownsRow (w.heap.size + 2) 5 1 v' (ys.length + 1) (tcs ys ++ [.int .u8 (48 + (d : Int))])) (hg : (W.alloc o).grownBy W2 v.ownBlock) : TextAt w z r v' (ys ++ [d]) W2 := by
  have hl := h.lt
  have hne : ∀ c, c < w.heap.size + 2 → some c ≠ v.ownBlock := fun c hc e => by
    have := own_block_ge h.own e.symm
    omega
  have hb := h.below.alloc h.below.size o
  refine ⟨hb.grown hg hb.size (fun k hk => by have := own_block_ge h.own hk; omega), ?_, ?_, ?_, ?_⟩
  · have := hg.size; simp at this; omega
  · exact row_grown2 (h.ra.past (by omega) o) hg (by simp; omega) (hne _ (by omega))
  · exact row_grown2 (h.rr.past (by omega) o) hg (by simp; omega) (hne _ (by omega))
  · rw [tcs_snoc, List.length_append]; exact hO
theorem own_form2 {w : World} {B e sz n : Nat} {v : Value} {l : List Value} (h : w.ownsRow B e sz v n l) : ∃ A cap, v = .slice A n cap := by
  rcases h.2 with ⟨rfl, rfl⟩ | ⟨g, cap, cur, rfl, _⟩
  · exact ⟨_, _, rfl⟩
  · exact ⟨_, _, rfl⟩
theorem six_there {w : World} {b : Nat} {z : Int} (h : RowAt w b 6 (wV z)) :
    (w.cell? ⟨b, 0, none⟩ = some (.int .u32 (wd z 0)) ∧ w.cell? ⟨b, 1, none⟩ = some (.int .u32 (wd z 1)) ∧ w.cell? ⟨b, 2, none⟩ = some (.int .u32 (wd z 2)) ∧ w.cell? ⟨b, 3, none⟩ = some (.int .u32 (wd z 3)) ∧ w.cell? ⟨b, 4, none⟩ = some (.int .u32 (wd z 4)) ∧ w.cell? ⟨b, 5, none⟩ = some (.int .u32 (wd z 5))) ∧
    (w.frozen? ⟨b, 0, none⟩ = false ∧ w.frozen? ⟨b, 1, none⟩ = false ∧ w.frozen? ⟨b, 2, none⟩ = false ∧ w.frozen? ⟨b, 3, none⟩ = false ∧ w.frozen? ⟨b, 4, none⟩ = false ∧ w.frozen? ⟨b, 5, none⟩ = false) :=
  ⟨⟨h.cell 0 (by decide), h.cell 1 (by decide), h.cell 2 (by decide), h.cell 3 (by decide), h.cell 4 (by decide), h.cell 5 (by decide)⟩, h.froz 0 (by decide), h.froz 1 (by decide), h.froz 2 (by decide), h.froz 3 (by decide), h.froz 4 (by decide), h.froz 5 (by decide)⟩
end Go.Proofs.YtoiofbpmgihkfaaDoor
