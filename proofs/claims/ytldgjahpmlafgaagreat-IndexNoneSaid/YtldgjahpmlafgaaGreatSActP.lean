/- Making a schema out of choices: actions: one region that may make its slices in any order, by an invariant. -/
import Derived.Test.YtldgjahpmlafgaaGreatSMake
import Derived.Test.YtldgjahpmlafgaaGreatSInv
namespace Go.Proofs.YtldgjahpmlafgaaGreat
open Go.RowKit

/-- A literal slice of n structs: some block of its own holds their cells. -/
def SlOf (K B n : Nat) (cs : List Value) (w : World) (v : Value) : Prop := ∃ L, v = .slice (some ⟨L, 0, none⟩) n n ∧ Bx K L cs w ∧ B ≤ L
theorem SlOf.kept {K B n : Nat} {cs : List Value} {w w' : World} {v : Value} (hg : w.grownBy w' (some K)) (h : SlOf K B n cs w v) : SlOf K B n cs w' v := h.imp fun _ h => ⟨h.1, h.2.1.chose hg, h.2.2⟩
theorem SlOf.set {K B n L : Nat} {cs bs : List Value} {w : World} {v : Value} (h : SlOf K B n cs w v) (hb : Bx K L bs w) (j : Nat) (h1 : j < cs.length) (h2 : j < bs.length) (hne : cs[j] ≠ bs[j]) (i : Nat) (u : Value) : SlOf K B n cs (w.setCell ⟨L, i, none⟩ u) v := by
  obtain ⟨M, rfl, hm, hB⟩ := h
  refine ⟨M, rfl, hm.other (fun e => ?_) i u, hB⟩
  subst e
  exact hne (Option.some.inj ((hm.c j h1).symm.trans (hb.c j h2)))
/-- The same, made after the block B. -/
def SlOf6 (K B : Nat) (cs : List Value) (w : World) (v : Value) : Prop := ∃ L, v = .slice (some ⟨L, 0, none⟩) 6 6 ∧ Bx K L cs w ∧ B ≤ L
theorem SlOf6.kept {K B : Nat} {cs : List Value} {w w' : World} {v : Value} (hg : w.grownBy w' (some K)) (h : SlOf6 K B cs w v) : SlOf6 K B cs w' v := h.imp fun _ h => ⟨h.1, h.2.1.chose hg, h.2.2⟩
theorem SlOf.new {K B : Nat} {w : World} (hK : K < w.heap.size) (hB : B ≤ w.heap.size) (n : Nat) (cs : List Value) (t : TypeId) : SlOf K B n cs (w.alloc (.cells cs.toArray t)) (.slice (some ⟨w.heap.size, 0, none⟩) n n) := ⟨_, rfl, Bx.new hK cs t, hB⟩
def FA0 (_ _ : Nat) (_ : World) (v : Value) : Prop := v = .agg #[.int .i64 1, .string ⟨#[110, 111, 112]⟩, .slice none 0 0, .slice none 0 0, .string ⟨#[]⟩]
def FA1 (_ _ : Nat) (_ : World) (v : Value) : Prop := v = .agg #[.int .i64 6, .int .i64 0, .int .i64 0, .int .i64 0, .int .u64 0, .int .u64 0]
def FA2 (K B : Nat) (w : World) (v : Value) : Prop := SlOf K B 1 [.int .i64 6, .int .i64 0, .int .i64 0, .int .i64 0, .int .u64 0, .int .u64 0] w v
def FA3 (K B : Nat) (w : World) (v : Value) : Prop := ∃ v8, SlOf K B 1 [.int .i64 6, .int .i64 0, .int .i64 0, .int .i64 0, .int .u64 0, .int .u64 0] w v8 ∧ v = .agg #[.int .i64 2, .string ⟨#[100, 114, 111, 112]⟩, .slice none 0 0, v8, .string ⟨#[]⟩]
def FA4 (_ _ : Nat) (_ : World) (v : Value) : Prop := v = .agg #[.string ⟨#[112, 111, 114, 116]⟩, .int .i64 16]
def FA5 (K B : Nat) (w : World) (v : Value) : Prop := SlOf K B 1 [.string ⟨#[112, 111, 114, 116]⟩, .int .i64 16] w v
def FA6 (_ _ : Nat) (_ : World) (v : Value) : Prop := v = .agg #[.int .i64 3, .int .i64 0, .int .u64 0, .int .u64 0]
def FA7 (_ _ : Nat) (_ : World) (v : Value) : Prop := v = .agg #[.int .i64 7, .int .i64 0, .int .i64 3, .int .i64 0, .int .u64 0, .int .u64 0]
def FA8 (K B : Nat) (w : World) (v : Value) : Prop := SlOf K B 1 [.int .i64 7, .int .i64 0, .int .i64 3, .int .i64 0, .int .u64 0, .int .u64 0] w v
def FA9 (K B : Nat) (w : World) (v : Value) : Prop := ∃ v11 v14, SlOf K B 1 [.string ⟨#[112, 111, 114, 116]⟩, .int .i64 16] w v11 ∧ SlOf K B 1 [.int .i64 7, .int .i64 0, .int .i64 3, .int .i64 0, .int .u64 0, .int .u64 0] w v14 ∧ v = .agg #[.int .i64 3, .string ⟨#[102, 111, 114, 119, 97, 114, 100]⟩, v11, v14, .string ⟨#[]⟩]
def FA10 (_ _ : Nat) (_ : World) (v : Value) : Prop := v = .agg #[.string ⟨#[120]⟩, .int .i64 4]
def FA11 (K B : Nat) (w : World) (v : Value) : Prop := SlOf K B 1 [.string ⟨#[120]⟩, .int .i64 4] w v
def FA12 (_ _ : Nat) (_ : World) (v : Value) : Prop := v = .agg #[.int .i64 3, .int .i64 0, .int .u64 0, .int .u64 0]
def FA13 (_ _ : Nat) (_ : World) (v : Value) : Prop := v = .agg #[.int .i64 1, .int .i64 5, .int .i64 3, .int .i64 0, .int .u64 0, .int .u64 0]
def FA14 (_ _ : Nat) (_ : World) (v : Value) : Prop := v = .agg #[.int .i64 2, .int .i64 5, .int .u64 0, .int .u64 0]
def FA15 (_ _ : Nat) (_ : World) (v : Value) : Prop := v = .agg #[.int .i64 2, .int .i64 3, .int .i64 2, .int .i64 5, .int .u64 0, .int .u64 0]
def FA16 (K B : Nat) (w : World) (v : Value) : Prop := SlOf K B 2 [.int .i64 1, .int .i64 5, .int .i64 3, .int .i64 0, .int .u64 0, .int .u64 0, .int .i64 2, .int .i64 3, .int .i64 2, .int .i64 5, .int .u64 0, .int .u64 0] w v
def FA17 (K B : Nat) (w : World) (v : Value) : Prop := ∃ v17 v22, SlOf K B 1 [.string ⟨#[120]⟩, .int .i64 4] w v17 ∧ SlOf K B 2 [.int .i64 1, .int .i64 5, .int .i64 3, .int .i64 0, .int .u64 0, .int .u64 0, .int .i64 2, .int .i64 3, .int .i64 2, .int .i64 5, .int .u64 0, .int .u64 0] w v22 ∧ v = .agg #[.int .i64 4, .string ⟨#[116, 97, 103]⟩, v17, v22, .string ⟨#[]⟩]
def FA18 (_ _ : Nat) (_ : World) (v : Value) : Prop := v = .agg #[.string ⟨#[120]⟩, .int .i64 4]
def FA19 (_ _ : Nat) (_ : World) (v : Value) : Prop := v = .agg #[.string ⟨#[121]⟩, .int .i64 12]
def FA20 (K B : Nat) (w : World) (v : Value) : Prop := SlOf K B 2 [.string ⟨#[120]⟩, .int .i64 4, .string ⟨#[121]⟩, .int .i64 12] w v
def FA21 (_ _ : Nat) (_ : World) (v : Value) : Prop := v = .agg #[.int .i64 4, .int .i64 3, .int .i64 0, .int .i64 0, .int .u64 0, .int .u64 0]
def FA22 (_ _ : Nat) (_ : World) (v : Value) : Prop := v = .agg #[.int .i64 3, .int .i64 0, .int .u64 0, .int .u64 0]
def FA23 (_ _ : Nat) (_ : World) (v : Value) : Prop := v = .agg #[.int .i64 1, .int .i64 9, .int .i64 3, .int .i64 0, .int .u64 0, .int .u64 0]
def FA24 (_ _ : Nat) (_ : World) (v : Value) : Prop := v = .agg #[.int .i64 3, .int .i64 1, .int .u64 0, .int .u64 0]
def FA25 (_ _ : Nat) (_ : World) (v : Value) : Prop := v = .agg #[.int .i64 3, .int .i64 8, .int .i64 3, .int .i64 1, .int .u64 0, .int .u64 0]
def FA26 (K B : Nat) (w : World) (v : Value) : Prop := SlOf K B 3 [.int .i64 4, .int .i64 3, .int .i64 0, .int .i64 0, .int .u64 0, .int .u64 0, .int .i64 1, .int .i64 9, .int .i64 3, .int .i64 0, .int .u64 0, .int .u64 0, .int .i64 3, .int .i64 8, .int .i64 3, .int .i64 1, .int .u64 0, .int .u64 0] w v
def FA27 (K B : Nat) (w : World) (v : Value) : Prop := ∃ v26 v32, SlOf K B 2 [.string ⟨#[120]⟩, .int .i64 4, .string ⟨#[121]⟩, .int .i64 12] w v26 ∧ SlOf K B 3 [.int .i64 4, .int .i64 3, .int .i64 0, .int .i64 0, .int .u64 0, .int .u64 0, .int .i64 1, .int .i64 9, .int .i64 3, .int .i64 0, .int .u64 0, .int .u64 0, .int .i64 3, .int .i64 8, .int .i64 3, .int .i64 1, .int .u64 0, .int .u64 0] w v32 ∧ v = .agg #[.int .i64 5, .string ⟨#[119, 114, 97, 112]⟩, v26, v32, .string ⟨#[]⟩]
def FA28 (K _ : Nat) (_ : World) (v : Value) : Prop := v = .pointer (some ⟨K, 0, none⟩)
def FA29 (_ _ : Nat) (_ : World) (v : Value) : Prop := ∃ q : Nat, q < 2 ∧ v = .int .i64 q
def FA30 (_ _ : Nat) (_ : World) (v : Value) : Prop := ∃ q : Nat, q < 2 ∧ v = .int .i64 (2 + (q : Int))
def FA31 (_ _ : Nat) (_ : World) (v : Value) : Prop := ∃ q : Nat, q < 2 ∧ v = .agg #[.int .i64 5, .int .i64 (2 + (q : Int)), .int .i64 0, .int .i64 0, .int .u64 0, .int .u64 0]
def FA32 (K _ : Nat) (_ : World) (v : Value) : Prop := v = .pointer (some ⟨K, 0, none⟩)
def FA33 (_ _ : Nat) (_ : World) (v : Value) : Prop := ∃ r : Nat, r < 256 ∧ v = .int .i64 r
def FA34 (_ _ : Nat) (_ : World) (v : Value) : Prop := ∃ r : Nat, r < 256 ∧ v = .int .u64 r
def FA35 (_ _ : Nat) (_ : World) (v : Value) : Prop := ∃ r : Nat, r < 256 ∧ v = .agg #[.int .u64 0, .int .u64 r]
def FA36 (_ _ : Nat) (_ : World) (v : Value) : Prop := ∃ r : Nat, r < 256 ∧ v = .agg #[.int .i64 1, .int .i64 0, .int .u64 0, .int .u64 r]
def FA37 (_ _ : Nat) (_ : World) (v : Value) : Prop := ∃ r : Nat, r < 256 ∧ v = .agg #[.int .i64 2, .int .i64 6, .int .i64 1, .int .i64 0, .int .u64 0, .int .u64 r]
def FA38 (K B : Nat) (w : World) (v : Value) : Prop := ∃ q r : Nat, q < 2 ∧ r < 256 ∧ SlOf K B 2 [.int .i64 5, .int .i64 (2 + (q : Int)), .int .i64 0, .int .i64 0, .int .u64 0, .int .u64 0, .int .i64 2, .int .i64 6, .int .i64 1, .int .i64 0, .int .u64 0, .int .u64 r] w v
def FA39 (K B : Nat) (w : World) (v : Value) : Prop := ∃ (q r : Nat) (v44 : Value), q < 2 ∧ r < 256 ∧ SlOf K B 2 [.int .i64 5, .int .i64 (2 + (q : Int)), .int .i64 0, .int .i64 0, .int .u64 0, .int .u64 0, .int .i64 2, .int .i64 6, .int .i64 1, .int .i64 0, .int .u64 0, .int .u64 r] w v44 ∧ v = .agg #[.int .i64 6, .string ⟨#[115, 116, 114, 105, 112]⟩, .slice none 0 0, v44, .string ⟨#[]⟩]
def FA40 (K B : Nat) (w : World) (v : Value) : Prop := ∃ (q r : Nat) (v8 v11 v14 v17 v22 v26 v32 v44 : Value), q < 2 ∧ r < 256 ∧ SlOf K B 1 [.int .i64 6, .int .i64 0, .int .i64 0, .int .i64 0, .int .u64 0, .int .u64 0] w v8 ∧ SlOf K B 1 [.string ⟨#[112, 111, 114, 116]⟩, .int .i64 16] w v11 ∧ SlOf K B 1 [.int .i64 7, .int .i64 0, .int .i64 3, .int .i64 0, .int .u64 0, .int .u64 0] w v14 ∧ SlOf K B 1 [.string ⟨#[120]⟩, .int .i64 4] w v17 ∧ SlOf K B 2 [.int .i64 1, .int .i64 5, .int .i64 3, .int .i64 0, .int .u64 0, .int .u64 0, .int .i64 2, .int .i64 3, .int .i64 2, .int .i64 5, .int .u64 0, .int .u64 0] w v22 ∧ SlOf K B 2 [.string ⟨#[120]⟩, .int .i64 4, .string ⟨#[121]⟩, .int .i64 12] w v26 ∧ SlOf K B 3 [.int .i64 4, .int .i64 3, .int .i64 0, .int .i64 0, .int .u64 0, .int .u64 0, .int .i64 1, .int .i64 9, .int .i64 3, .int .i64 0, .int .u64 0, .int .u64 0, .int .i64 3, .int .i64 8, .int .i64 3, .int .i64 1, .int .u64 0, .int .u64 0] w v32 ∧ SlOf K B 2 [.int .i64 5, .int .i64 (2 + (q : Int)), .int .i64 0, .int .i64 0, .int .u64 0, .int .u64 0, .int .i64 2, .int .i64 6, .int .i64 1, .int .i64 0, .int .u64 0, .int .u64 r] w v44 ∧ SlOf6 K B [.int .i64 1, .string ⟨#[110, 111, 112]⟩, .slice none 0 0, .slice none 0 0, .string ⟨#[]⟩, .int .i64 2, .string ⟨#[100, 114, 111, 112]⟩, .slice none 0 0, v8, .string ⟨#[]⟩, .int .i64 3, .string ⟨#[102, 111, 114, 119, 97, 114, 100]⟩, v11, v14, .string ⟨#[]⟩, .int .i64 4, .string ⟨#[116, 97, 103]⟩, v17, v22, .string ⟨#[]⟩, .int .i64 5, .string ⟨#[119, 114, 97, 112]⟩, v26, v32, .string ⟨#[]⟩, .int .i64 6, .string ⟨#[115, 116, 114, 105, 112]⟩, .slice none 0 0, v44, .string ⟨#[]⟩] w v
def FA41 (K B : Nat) (w : World) (v : Value) : Prop := ∃ (q r : Nat) (v8 v11 v14 v17 v22 v26 v32 v44 : Value), q < 2 ∧ r < 256 ∧ SlOf K B 1 [.int .i64 6, .int .i64 0, .int .i64 0, .int .i64 0, .int .u64 0, .int .u64 0] w v8 ∧ SlOf K B 1 [.string ⟨#[112, 111, 114, 116]⟩, .int .i64 16] w v11 ∧ SlOf K B 1 [.int .i64 7, .int .i64 0, .int .i64 3, .int .i64 0, .int .u64 0, .int .u64 0] w v14 ∧ SlOf K B 1 [.string ⟨#[120]⟩, .int .i64 4] w v17 ∧ SlOf K B 2 [.int .i64 1, .int .i64 5, .int .i64 3, .int .i64 0, .int .u64 0, .int .u64 0, .int .i64 2, .int .i64 3, .int .i64 2, .int .i64 5, .int .u64 0, .int .u64 0] w v22 ∧ SlOf K B 2 [.string ⟨#[120]⟩, .int .i64 4, .string ⟨#[121]⟩, .int .i64 12] w v26 ∧ SlOf K B 3 [.int .i64 4, .int .i64 3, .int .i64 0, .int .i64 0, .int .u64 0, .int .u64 0, .int .i64 1, .int .i64 9, .int .i64 3, .int .i64 0, .int .u64 0, .int .u64 0, .int .i64 3, .int .i64 8, .int .i64 3, .int .i64 1, .int .u64 0, .int .u64 0] w v32 ∧ SlOf K B 2 [.int .i64 5, .int .i64 (2 + (q : Int)), .int .i64 0, .int .i64 0, .int .u64 0, .int .u64 0, .int .i64 2, .int .i64 6, .int .i64 1, .int .i64 0, .int .u64 0, .int .u64 r] w v44 ∧ SlOf6 K B [.int .i64 1, .string ⟨#[110, 111, 112]⟩, .slice none 0 0, .slice none 0 0, .string ⟨#[]⟩, .int .i64 2, .string ⟨#[100, 114, 111, 112]⟩, .slice none 0 0, v8, .string ⟨#[]⟩, .int .i64 3, .string ⟨#[102, 111, 114, 119, 97, 114, 100]⟩, v11, v14, .string ⟨#[]⟩, .int .i64 4, .string ⟨#[116, 97, 103]⟩, v17, v22, .string ⟨#[]⟩, .int .i64 5, .string ⟨#[119, 114, 97, 112]⟩, v26, v32, .string ⟨#[]⟩, .int .i64 6, .string ⟨#[115, 116, 114, 105, 112]⟩, .slice none 0 0, v44, .string ⟨#[]⟩] w v
def FAct (K B : Nat) (i : Nat) (w : World) (v : Value) : Prop :=
  match i with
  | 0 => FA0 K B w v
  | 1 => FA1 K B w v
  | 2 => FA2 K B w v
  | 3 => FA3 K B w v
  | 4 => FA4 K B w v
  | 5 => FA5 K B w v
  | 6 => FA6 K B w v
  | 7 => FA7 K B w v
  | 8 => FA8 K B w v
  | 9 => FA9 K B w v
  | 10 => FA10 K B w v
  | 11 => FA11 K B w v
  | 12 => FA12 K B w v
  | 13 => FA13 K B w v
  | 14 => FA14 K B w v
  | 15 => FA15 K B w v
  | 16 => FA16 K B w v
  | 17 => FA17 K B w v
  | 18 => FA18 K B w v
  | 19 => FA19 K B w v
  | 20 => FA20 K B w v
  | 21 => FA21 K B w v
  | 22 => FA22 K B w v
  | 23 => FA23 K B w v
  | 24 => FA24 K B w v
  | 25 => FA25 K B w v
  | 26 => FA26 K B w v
  | 27 => FA27 K B w v
  | 28 => FA28 K B w v
  | 29 => FA29 K B w v
  | 30 => FA30 K B w v
  | 31 => FA31 K B w v
  | 32 => FA32 K B w v
  | 33 => FA33 K B w v
  | 34 => FA34 K B w v
  | 35 => FA35 K B w v
  | 36 => FA36 K B w v
  | 37 => FA37 K B w v
  | 38 => FA38 K B w v
  | 39 => FA39 K B w v
  | 40 => FA40 K B w v
  | 41 => FA41 K B w v
  | _ => True
theorem FAct.kept {K B i : Nat} {w w' : World} {v : Value} (hg : w.grownBy w' (some K)) (h : FAct K B i w v) : FAct K B i w' v := by
  match i, h with
  | 0, h => exact h
  | 1, h => exact h
  | 2, h => exact SlOf.kept hg h
  | 3, h =>
    obtain ⟨v8, h0, h1⟩ := h
    exact ⟨v8, h0.kept hg, h1⟩
  | 4, h => exact h
  | 5, h => exact SlOf.kept hg h
  | 6, h => exact h
  | 7, h => exact h
  | 8, h => exact SlOf.kept hg h
  | 9, h =>
    obtain ⟨v11, v14, h0, h1, h2⟩ := h
    exact ⟨v11, v14, h0.kept hg, h1.kept hg, h2⟩
  | 10, h => exact h
  | 11, h => exact SlOf.kept hg h
  | 12, h => exact h
  | 13, h => exact h
  | 14, h => exact h
  | 15, h => exact h
  | 16, h => exact SlOf.kept hg h
  | 17, h =>
    obtain ⟨v17, v22, h0, h1, h2⟩ := h
    exact ⟨v17, v22, h0.kept hg, h1.kept hg, h2⟩
  | 18, h => exact h
  | 19, h => exact h
  | 20, h => exact SlOf.kept hg h
  | 21, h => exact h
  | 22, h => exact h
  | 23, h => exact h
  | 24, h => exact h
  | 25, h => exact h
  | 26, h => exact SlOf.kept hg h
  | 27, h =>
    obtain ⟨v26, v32, h0, h1, h2⟩ := h
    exact ⟨v26, v32, h0.kept hg, h1.kept hg, h2⟩
  | 28, h => exact h
  | 29, h =>
    obtain ⟨q, h0, h1⟩ := h
    exact ⟨q, h0, h1⟩
  | 30, h =>
    obtain ⟨q, h0, h1⟩ := h
    exact ⟨q, h0, h1⟩
  | 31, h =>
    obtain ⟨q, h0, h1⟩ := h
    exact ⟨q, h0, h1⟩
  | 32, h => exact h
  | 33, h =>
    obtain ⟨r, h0, h1⟩ := h
    exact ⟨r, h0, h1⟩
  | 34, h =>
    obtain ⟨r, h0, h1⟩ := h
    exact ⟨r, h0, h1⟩
  | 35, h =>
    obtain ⟨r, h0, h1⟩ := h
    exact ⟨r, h0, h1⟩
  | 36, h =>
    obtain ⟨r, h0, h1⟩ := h
    exact ⟨r, h0, h1⟩
  | 37, h =>
    obtain ⟨r, h0, h1⟩ := h
    exact ⟨r, h0, h1⟩
  | 38, h =>
    obtain ⟨q, r, h0, h1, h2⟩ := h
    exact ⟨q, r, h0, h1, h2.kept hg⟩
  | 39, h =>
    obtain ⟨q, r, v44, h0, h1, h2, h3⟩ := h
    exact ⟨q, r, v44, h0, h1, h2.kept hg, h3⟩
  | 40, h =>
    obtain ⟨q, r, v8, v11, v14, v17, v22, v26, v32, v44, h0, h1, h2, h3, h4, h5, h6, h7, h8, h9, h10⟩ := h
    exact ⟨q, r, v8, v11, v14, v17, v22, v26, v32, v44, h0, h1, h2.kept hg, h3.kept hg, h4.kept hg, h5.kept hg, h6.kept hg, h7.kept hg, h8.kept hg, h9.kept hg, h10.kept hg⟩
  | 41, h =>
    obtain ⟨q, r, v8, v11, v14, v17, v22, v26, v32, v44, h0, h1, h2, h3, h4, h5, h6, h7, h8, h9, h10⟩ := h
    exact ⟨q, r, v8, v11, v14, v17, v22, v26, v32, v44, h0, h1, h2.kept hg, h3.kept hg, h4.kept hg, h5.kept hg, h6.kept hg, h7.kept hg, h8.kept hg, h9.kept hg, h10.kept hg⟩
  | _ + 42, _ => trivial
def slA (i : Nat) : Nat := if i = 41 then 4 else 6 + i
theorem slA_inj {i j : Nat} (hi : i < 42) (hj : j < 42) (h : i ≠ j) : slA i ≠ slA j := by unfold slA; split <;> split <;> omega
structure AInv (K D P : Nat) (l : List Nat) (w0 : World) (listed : Array Bool) (a : Act) (w : World) : Prop where
  size : a.tmps.size = 58
  lsize : listed.size = 42
  defers : a.defers = []
  t0 : a.tmps[0]?.getD undef = .pointer (some ⟨K, 0, none⟩)
  t3 : a.tmps[3]?.getD undef = .pointer (some ⟨P, 0, none⟩)
  box : Bx K P [.int .i64 3, .int .i64 0, .int .u64 0, .int .u64 0] w
  co : ∃ p, CoAt K D l p w
  grown : w0.grownBy w (some K)
  f : ∀ i, i < 42 → listed.getD i false = true → FAct K w0.heap.size i w (a.tmps[slA i]?.getD undef)
theorem AInv.step {K D P : Nat} {l : List Nat} {w0 w w' : World} {listed : Array Bool} {a : Act} (h : AInv K D P l w0 listed a w) (i : Nat) (hi : i < 42) (hg : w.grownBy w' (some K)) (hco : ∃ p, CoAt K D l p w') {v : Value} (hv : FAct K w0.heap.size i w' v) (s : Nat) (hs : s = slA i) :
    AInv K D P l w0 (listed.setIfInBounds i true) { tmps := a.tmps.setIfInBounds s v, defers := a.defers } w' := by
  subst hs
  have hne0 : slA i ≠ 0 := by unfold slA; split <;> omega
  have hne3 : slA i ≠ 3 := by unfold slA; split <;> omega
  have hlt : slA i < 58 := by unfold slA; split <;> omega
  refine ⟨by simpa using h.size, by simpa using h.lsize, h.defers, ?_, ?_, h.box.chose hg, hco, h.grown.trans hg, fun j hj hl => ?_⟩
  · show (a.tmps.setIfInBounds (slA i) v)[0]?.getD undef = _
    rw [Array.getElem?_setIfInBounds, if_neg hne0]; exact h.t0
  · show (a.tmps.setIfInBounds (slA i) v)[3]?.getD undef = _
    rw [Array.getElem?_setIfInBounds, if_neg hne3]; exact h.t3
  · show FAct K w0.heap.size j w' ((a.tmps.setIfInBounds (slA i) v)[slA j]?.getD undef)
    by_cases e : i = j
    · subst e
      rw [Array.getElem?_setIfInBounds, if_pos rfl, if_pos (by rw [h.size]; exact hlt)]
      exact hv
    · rw [Array.getElem?_setIfInBounds, if_neg (slA_inj hi hj e)]
      refine (h.f j hj ?_).kept hg
      rw [Array.getD_eq_getD_getElem?, Array.getElem?_setIfInBounds, if_neg e] at hl
      rwa [Array.getD_eq_getD_getElem?]
theorem ready_dep {md : Region.Mode} {ops : Array Oper} {listed : Array Bool} {i : Nat} {o : Oper} (h : i ∈ Region.ready md ops listed) (ho : ops[i]? = some o) {e : Edge} (he : e ∈ o.after) (hb : Region.binds md e = true) : listed.getD e.on false = true := by
  unfold Region.ready at h
  have h2 := (List.mem_filter.1 h).2
  rw [Bool.and_eq_true, ho] at h2
  have h3 := h2.2
  simp only [Option.map_some, Option.getD_some, Array.all_eq_true'] at h3
  have := h3 e he
  simpa [hb] using this
theorem ready_all {md : Region.Mode} {ops : Array Oper} {listed : Array Bool} (hchk : (List.range ops.size).all (fun i => ((ops[i]?).map fun o => o.after.all fun e => decide (e.on < i)).getD true) = true)
    (hls : listed.size = ops.size) (hr : Region.ready md ops listed = []) : ∀ i, i < ops.size → listed.getD i false = true := by
  intro i
  induction i using Nat.strongRecOn with
  | ind i ih =>
    intro hi
    cases hl : listed.getD i true with
    | true =>
      rw [Array.getD_eq_getD_getElem?] at hl ⊢
      rw [Array.getElem?_eq_getElem (by omega)] at hl ⊢
      exact hl
    | false =>
      exfalso
      have hmem : i ∈ Region.ready md ops listed := by
        unfold Region.ready
        refine List.mem_filter.2 ⟨List.mem_range.2 hi, ?_⟩
        rw [Bool.and_eq_true]
        refine ⟨by rw [hl]; rfl, ?_⟩
        rw [Array.getElem?_eq_getElem hi]
        simp only [Option.map_some, Option.getD_some, Array.all_eq_true']
        intro e he
        have h1 := List.all_eq_true.1 hchk i (List.mem_range.2 hi)
        rw [Array.getElem?_eq_getElem hi] at h1
        simp only [Option.map_some, Option.getD_some, Array.all_eq_true', decide_eq_true_eq] at h1
        have h2 := h1 e he
        rw [ih e.on h2 (by omega)]
        simp
      rw [hr] at hmem
      cases hmem
def actCells (v8 v11 v14 v17 v22 v26 v32 v44 x3 x5 : Value) : List Value := [.int .i64 1, .string ⟨#[110, 111, 112]⟩, .slice none 0 0, .slice none 0 0, .string ⟨#[]⟩, .int .i64 2, .string ⟨#[100, 114, 111, 112]⟩, .slice none 0 0, v8, .string ⟨#[]⟩, .int .i64 3, .string ⟨#[102, 111, 114, 119, 97, 114, 100]⟩, v11, v14, x3, .int .i64 4, .string ⟨#[116, 97, 103]⟩, v17, v22, .string ⟨#[]⟩, .int .i64 5, .string ⟨#[119, 114, 97, 112]⟩, v26, v32, x5, .int .i64 6, .string ⟨#[115, 116, 114, 105, 112]⟩, .slice none 0 0, v44, .string ⟨#[]⟩]
structure ActParts (K B q r : Nat) (v8 v11 v14 v17 v22 v26 v32 v44 : Value) (w : World) : Prop where
  q2 : q < 2
  r2 : r < 256
  s8 : SlOf K B 1 [.int .i64 6, .int .i64 0, .int .i64 0, .int .i64 0, .int .u64 0, .int .u64 0] w v8
  s11 : SlOf K B 1 [.string ⟨#[112, 111, 114, 116]⟩, .int .i64 16] w v11
  s14 : SlOf K B 1 [.int .i64 7, .int .i64 0, .int .i64 3, .int .i64 0, .int .u64 0, .int .u64 0] w v14
  s17 : SlOf K B 1 [.string ⟨#[120]⟩, .int .i64 4] w v17
  s22 : SlOf K B 2 [.int .i64 1, .int .i64 5, .int .i64 3, .int .i64 0, .int .u64 0, .int .u64 0, .int .i64 2, .int .i64 3, .int .i64 2, .int .i64 5, .int .u64 0, .int .u64 0] w v22
  s26 : SlOf K B 2 [.string ⟨#[120]⟩, .int .i64 4, .string ⟨#[121]⟩, .int .i64 12] w v26
  s32 : SlOf K B 3 [.int .i64 4, .int .i64 3, .int .i64 0, .int .i64 0, .int .u64 0, .int .u64 0, .int .i64 1, .int .i64 9, .int .i64 3, .int .i64 0, .int .u64 0, .int .u64 0, .int .i64 3, .int .i64 8, .int .i64 3, .int .i64 1, .int .u64 0, .int .u64 0] w v32
  s44 : SlOf K B 2 [.int .i64 5, .int .i64 (2 + (q : Int)), .int .i64 0, .int .i64 0, .int .u64 0, .int .u64 0, .int .i64 2, .int .i64 6, .int .i64 1, .int .i64 0, .int .u64 0, .int .u64 r] w v44
theorem ActParts.chose {K B q r : Nat} {v8 v11 v14 v17 v22 v26 v32 v44 : Value} {w w' : World} (h : ActParts K B q r v8 v11 v14 v17 v22 v26 v32 v44 w) (hg : w.grownBy w' (some K)) : ActParts K B q r v8 v11 v14 v17 v22 v26 v32 v44 w' :=
  ⟨h.q2, h.r2, h.s8.kept hg, h.s11.kept hg, h.s14.kept hg, h.s17.kept hg, h.s22.kept hg, h.s26.kept hg, h.s32.kept hg, h.s44.kept hg⟩
theorem ActParts.set {K B q r L : Nat} {v8 v11 v14 v17 v22 v26 v32 v44 x3 x5 : Value} {w : World} (h : ActParts K B q r v8 v11 v14 v17 v22 v26 v32 v44 w) (hb : Bx K L (actCells v8 v11 v14 v17 v22 v26 v32 v44 x3 x5) w) (i : Nat) (u : Value) : ActParts K B q r v8 v11 v14 v17 v22 v26 v32 v44 (w.setCell ⟨L, i, none⟩ u) :=
  ⟨h.q2, h.r2, h.s8.set hb 0 (by simp) (by simp [actCells]) (by simp [actCells]) i u, h.s11.set hb 0 (by simp) (by simp [actCells]) (by simp [actCells]) i u, h.s14.set hb 0 (by simp) (by simp [actCells]) (by simp [actCells]) i u, h.s17.set hb 0 (by simp) (by simp [actCells]) (by simp [actCells]) i u, h.s22.set hb 1 (by simp) (by simp [actCells]) (by simp [actCells]) i u, h.s26.set hb 0 (by simp) (by simp [actCells]) (by simp [actCells]) i u, h.s32.set hb 0 (by simp) (by simp [actCells]) (by simp [actCells]) i u, h.s44.set hb 0 (by simp) (by simp [actCells]) (by simp [actCells]) i u⟩
/-- What actions answers. -/
def ActsAt (K B : Nat) (w : World) (v : Value) : Prop := ∃ (q r : Nat) (v8 v11 v14 v17 v22 v26 v32 v44 x3 x5 : Value), ActParts K B q r v8 v11 v14 v17 v22 v26 v32 v44 w ∧ SlOf6 K B (actCells v8 v11 v14 v17 v22 v26 v32 v44 x3 x5) w v ∧ (x3 = .string ⟨#[]⟩ ∨ x3 = .string ⟨#[112, 111, 114, 116, 32, 33, 61, 32, 48]⟩) ∧ (x5 = .string ⟨#[]⟩ ∨ x5 = .string ⟨#[120, 32, 60, 32, 121, 32, 124, 124, 32, 120, 32, 61, 61, 32, 49, 53]⟩)
theorem grown_own {w w2 : World} {K L : Nat} (hg : w.grownBy w2 (some K)) (hL : w.heap.size ≤ L) (i : Nat) (u : Value) : w.grownBy (w2.setCell ⟨L, i, none⟩ u) (some K) :=
  ⟨(grown_set w2 L i u).os.trans hg.os, (grown_set w2 L i u).tape.trans hg.tape, (grown_set w2 L i u).output.trans hg.output, Nat.le_trans hg.size (grown_set w2 L i u).size, fun k hk hr => ((grown_set w2 L i u).block k (Nat.lt_of_lt_of_le hk hg.size) (fun e => by injection e with e; omega)).trans (hg.block k hk hr)⟩
theorem cons_of {n : Nat} {t : List Value} (h : t.length = n + 1) : ∃ x s, t = x :: s ∧ s.length = n := by
  cases t with
  | nil => simp at h
  | cons x s => exact ⟨x, s, rfl, by simpa using h⟩
end Go.Proofs.YtldgjahpmlafgaaGreat
