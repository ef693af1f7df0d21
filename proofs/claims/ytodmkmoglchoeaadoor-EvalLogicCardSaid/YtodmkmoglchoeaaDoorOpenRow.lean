/- Contracts, joined: Open, OpenRow, NOpen. -/
import Derived.Test.YtodmkmoglchoeaaDoorPure
import Derived.ProofKit
import Derived.Lib.SmallJoins
import Derived.Below
import Derived.ChangeOld
import Derived.Test.YtodmkmoglchoeaaDoorJParse
import Derived.Test.YtodmkmoglchoeaaDoorNBegun
import Derived.Deep.Slices
namespace Go.Proofs.YtodmkmoglchoeaaDoor
/- What comes in: values opened as numbers. -/
section
open Go.ChangeShapes Go.WideShapes Go.ChangeAt Go.RowKit Go.Joins

set_option maxRecDepth 100000 in
theorem own : ownKnob Tryd.prog.godebug = none := by kernel_rfl
set_option maxRecDepth 100000 in
theorem laidOut : laidOutB Tryd.prog = true := by kernel_rfl
set_option maxRecDepth 100000 in
theorem cells_val : Tryd.prog.cellsOf 102 = 2 := by kernel_rfl
set_option maxRecDepth 100000 in
theorem u64_of_wf {x : Int} (h : (Lit.int .u64 x).wf = true) : 0 ≤ x ∧ x < 18446744073709551616 := by
  simp [Lit.wf, IntKind.min, IntKind.max, IntKind.signed, IntKind.bits] at h
  omega
set_option maxRecDepth 100000 in
theorem i64_of_wf {x : Int} (h : (Lit.int .i64 x).wf = true) : -9223372036854775808 ≤ x ∧ x ≤ 9223372036854775807 := by
  simp [Lit.wf, IntKind.min, IntKind.max, IntKind.signed, IntKind.bits] at h
  omega
set_option maxRecDepth 100000 in
theorem hi_of (x y : Int) (hx : 0 ≤ x ∧ x < 18446744073709551616) (hy : 0 ≤ y ∧ y < 18446744073709551616) : hi (x.toNat * 18446744073709551616 + y.toNat) = x ∧ lo (x.toNat * 18446744073709551616 + y.toNat) = y ∧ x.toNat * 18446744073709551616 + y.toNat < 2 ^ 128 := by
  unfold hi lo
  omega
section
variable {H : Type} {enc : TypeId × Value → H} {w : World} {base b0 : Nat} {spare : Nat → Bool} {held : Bool} {v : Value} {d : DataW H} {p : List MemPlace}
set_option maxRecDepth 100000 in
theorem open_val (hv : Value.okWide Tryd.prog w .any b0 102 v) (h : DataW.Trod enc Tryd.prog w base spare held 102 v d p) : ∃ n : Nat, n < 2 ^ 128 ∧ v = .agg #[.int .u64 (hi n), .int .u64 (lo n)] := by
  obtain ⟨c0, c1, y0, y1, m, rfl, rfl, rfl, hy0, hy1⟩ := open_agg2 Tryd.underlying102 (by kernel_rfl) cells_val hv h
  obtain ⟨x, e0, rfl, wx⟩ := DataW.trod_int Tryd.underlying100 hy0
  obtain ⟨y, e1, rfl, wy⟩ := DataW.trod_int Tryd.underlying100 hy1
  simp at e0 e1
  subst e0 e1
  obtain ⟨h1, h2, h3⟩ := hi_of x y (u64_of_wf wx) (u64_of_wf wy)
  exact ⟨_, h3, by rw [h1, h2]⟩
end
end
/- What comes in: a slice of bytes, opened as a row that can be read. -/
section
open Go.ChangeShapes Go.WideShapes Go.ChangeAt Go.RowKit Go.Joins

set_option maxRecDepth 100000 in
theorem u8_of_wf {x : Int} (h : (Lit.int .u8 x).wf = true) : 0 ≤ x ∧ x < 256 := by
  simp [Lit.wf, IntKind.min, IntKind.max, IntKind.signed, IntKind.bits] at h
  omega
set_option maxRecDepth 100000 in
theorem open_row {H : Type} {enc : TypeId × Value → H} {w : World} {A : Option Addr} {len cap : Nat} {d : DataW H} {p : List MemPlace}
    (h : DataW.Trod enc Tryd.prog w 0 (fun _ => true) true 31 (.slice A len cap) d p) : ∃ g : Nat → Nat, len ≤ cap ∧ cap ≤ maxLen ∧ ReadsB w A len g := by
  obtain ⟨fuel, hf⟩ := h
  rcases open_ints Tryd.underlying31 Tryd.underlying5 (by kernel_rfl) hf with ⟨hcs, _⟩ | ⟨x, l, c, zs, hcs, _, hl, hm, hz, _, hcell, hwz⟩
  · simp [Value.cells] at hcs
    obtain ⟨rfl, rfl, rfl⟩ := hcs
    exact ⟨fun _ => 0, Nat.le_refl _, Nat.zero_le _, .inl rfl⟩
  · simp [Value.cells] at hcs
    obtain ⟨rfl, rfl, rfl⟩ := hcs
    have hz2 : zs.length = cap := by simpa using hz
    refine ⟨fun i => (zs.getD i 0).toNat, hl, hm, ?_⟩
    rcases Nat.eq_zero_or_pos len with h0 | h0
    · exact .inl h0
    · have hin : ∀ i, i < len → 0 ≤ zs.getD i 0 ∧ zs.getD i 0 < 256 := by
        intro i hi
        have hi2 : i < zs.length := by omega
        refine u8_of_wf (hwz _ ?_)
        rw [List.getD_eq_getElem?_getD, List.getElem?_eq_getElem hi2]
        exact List.getElem_mem hi2
      have h00 := hcell 0 (by omega)
      have hx0 : x.add 0 = x := by simp [Addr.add]
      rw [hx0] at h00
      obtain ⟨b, o, s⟩ := x
      have hs : s = none := World.cell?_spot h00
      subst hs
      refine .inr ⟨b, o, rfl, World.block_lt_of_cell? _ _ h00, fun i hi => ?_, fun i hi => ?_⟩
      · have hc := hcell i (by omega)
        rw [Addr.add_mid] at hc
        rw [hc, Int.toNat_of_nonneg (hin i hi).1]
      · have := hin i hi
        dsimp only
        omega
end
/- What comes in: slices of values and of truth values. -/
section
open Go.ChangeShapes Go.WideShapes Go.ChangeAt Go.RowKit Go.Joins Go.Deep

set_option maxRecDepth 100000 in
theorem cells_u64 : Tryd.prog.cellsOf 100 = 1 := by kernel_rfl
set_option maxRecDepth 100000 in
theorem cells_bl : Tryd.prog.cellsOf 4 = 1 := by kernel_rfl
section
variable {H : Type} {enc : TypeId × Value → H} {w : World} {d : DataW H} {p : List MemPlace}
set_option maxRecDepth 100000 in
theorem open_value {fuel : Nat} {cs : List Value} {x : DataW H × List MemPlace} (hl : cs.length = 2)
    (h : DataW.trod enc Tryd.prog w 0 (fun _ => true) true fuel 102 cs = some x) : ∃ n : Nat, n < 2 ^ 128 ∧ cs = [.int .u64 (hi n), .int .u64 (lo n)] := by
  obtain ⟨zs, m, _, _, _, hzl, hg⟩ := DataW.trod_struct Tryd.underlying102 h
  match cs, hl with
  | [c3, c4], _ =>
    match zs, hzl with
    | [z0, z1], _ =>
      have g0 : DataW.trod enc Tryd.prog w 0 (fun _ => true) true m 100 (List.take (Tryd.prog.cellsOf 100) (List.drop 0 [c3, c4])) = some z0 := hg 0 _ rfl
      have g1 : DataW.trod enc Tryd.prog w 0 (fun _ => true) true m 100 (List.take (Tryd.prog.cellsOf 100) (List.drop 1 [c3, c4])) = some z1 := hg 1 _ rfl
      rw [cells_u64] at g0 g1
      obtain ⟨vh, e3, _, w3⟩ := DataW.trod_int Tryd.underlying100 g0
      obtain ⟨vl, e4, _, w4⟩ := DataW.trod_int Tryd.underlying100 g1
      simp only [List.drop_zero, List.drop_succ_cons, List.take_succ_cons, List.take_zero, List.cons.injEq, and_true] at e3 e4
      subst e3 e4
      obtain ⟨q1, q2, q3⟩ := hi_of vh vl (u64_of_wf w3) (u64_of_wf w4)
      exact ⟨_, q3, by rw [q1, q2]⟩
set_option maxRecDepth 100000 in
theorem open_vals {A : Option Addr} {len cap : Nat} (h : DataW.Trod enc Tryd.prog w 0 (fun _ => true) true 24 (.slice A len cap) d p) : ∃ f : Nat → Nat, len ≤ cap ∧ cap ≤ maxLen ∧ (∀ i, f i < 2 ^ 128) ∧ ValsB w A len f := by
  obtain ⟨fuel, hf⟩ := h
  rcases open_slice Tryd.underlying24 hf with ⟨hcs, _⟩ | ⟨a, l, c, m, n, D, Pl, hcs, _, hl, hm, hmm, _, hi'⟩
  · simp [Value.cells] at hcs
    obtain ⟨rfl, rfl, rfl⟩ := hcs
    exact ⟨fun _ => 0, Nat.le_refl _, Nat.zero_le _, fun _ => (by decide : (0 : Nat) < 2 ^ 128), .inl rfl⟩
  · simp [Value.cells] at hcs
    obtain ⟨rfl, rfl, rfl⟩ := hcs
    have hmc : m = cap := by simpa using hmm
    subst hmc
    rcases Nat.eq_zero_or_pos len with h0 | h0
    · exact ⟨fun _ => 0, hl, hm, fun _ => (by decide : (0 : Nat) < 2 ^ 128), .inl h0⟩
    · have hsp : a.spot = none := by
        obtain ⟨cs', hc, _⟩ := hi' 0 (by omega)
        rw [cells_val] at hc
        obtain ⟨_, hcl, hat⟩ := World.cells?_some hc
        have h1 := hat 0 (by omega)
        have h2 : w.cell? (a.add (0 * 2)) = some (cs'[0]'(by omega)) := by
          have := h1
          rw [List.getElem?_eq_getElem (by omega)] at this
          have e : (a.add (0 * 2)).add 0 = a.add (0 * 2) := by simp [Addr.add]
          rwa [e] at this
        have e : a.add (0 * 2) = a := by simp [Addr.add]
        rw [e] at h2
        exact World.cell?_spot h2
      obtain ⟨b, o, s⟩ := a
      simp only at hsp
      subst hsp
      have key : ∀ i, i < len → ∃ y : Nat, y < 2 ^ 128 ∧ w.cell? ⟨b, o + i * 2, none⟩ = some (.int .u64 (hi y)) ∧ w.cell? ⟨b, o + i * 2 + 1, none⟩ = some (.int .u64 (lo y)) := by
        intro i hilt
        obtain ⟨cs', hc, ht⟩ := hi' i (by omega)
        rw [cells_val] at hc
        obtain ⟨_, hcl, hat⟩ := World.cells?_some hc
        have hcell : ∀ j, j < 2 → w.cell? ⟨b, o + i * 2 + j, none⟩ = cs'[j]? := fun j hj => by
          have := hat j hj
          rw [Addr.add_mid, Addr.add_mid] at this
          exact this
        obtain ⟨y, hy, e⟩ := open_value hcl ht
        refine ⟨y, hy, ?_, ?_⟩
        · have := hcell 0 (by decide); rw [e] at this; simpa using this
        · have := hcell 1 (by decide); rw [e] at this; simpa using this
      refine ⟨fun i => if hlt : i < len then (key i hlt).choose else 0, hl, hm, fun i => ?_, .inr ⟨b, o, rfl, World.block_lt_of_cell? _ _ (key 0 h0).choose_spec.2.1, fun i hilt => ?_⟩⟩
      · by_cases hlt : i < len
        · simp only [hlt, dif_pos]; exact (key i hlt).choose_spec.1
        · simp only [hlt, dif_neg, not_false_eq_true]; decide
      · simp only [hilt, dif_pos]
        exact (key i hilt).choose_spec.2
set_option maxRecDepth 100000 in
theorem open_bools {A : Option Addr} {len cap : Nat} (h : DataW.Trod enc Tryd.prog w 0 (fun _ => true) true 126 (.slice A len cap) d p) : ∃ g : Nat → Bool, len ≤ cap ∧ cap ≤ maxLen ∧ BoolsB w A len g := by
  obtain ⟨fuel, hf⟩ := h
  rcases open_slice Tryd.underlying126 hf with ⟨hcs, _⟩ | ⟨a, l, c, m, n, D, Pl, hcs, _, hl, hm, hmm, _, hi'⟩
  · simp [Value.cells] at hcs
    obtain ⟨rfl, rfl, rfl⟩ := hcs
    exact ⟨fun _ => false, Nat.le_refl _, Nat.zero_le _, .inl rfl⟩
  · simp [Value.cells] at hcs
    obtain ⟨rfl, rfl, rfl⟩ := hcs
    have hmc : m = cap := by simpa using hmm
    subst hmc
    rcases Nat.eq_zero_or_pos len with h0 | h0
    · exact ⟨fun _ => false, hl, hm, .inl h0⟩
    · have key0 : ∀ i, i < len → ∃ y : Bool, w.cell? (a.add (i * 1)) = some (.bool y) := by
        intro i hilt
        obtain ⟨cs', hc, ht⟩ := hi' i (by omega)
        rw [cells_bl] at hc
        obtain ⟨_, hcl, hat⟩ := World.cells?_some hc
        have h1 := hat 0 (by omega)
        obtain ⟨y, e, _⟩ := DataW.trod_bool Tryd.underlying4 ht
        rw [e] at h1
        refine ⟨y, ?_⟩
        have e2 : (a.add (i * 1)).add 0 = a.add (i * 1) := by simp [Addr.add]
        rw [e2] at h1
        simpa using h1
      have hsp : a.spot = none := by
        obtain ⟨y, hy⟩ := key0 0 h0
        have e : a.add (0 * 1) = a := by simp [Addr.add]
        rw [e] at hy
        exact World.cell?_spot hy
      obtain ⟨b, o, s⟩ := a
      simp only at hsp
      subst hsp
      have key : ∀ i, i < len → ∃ y : Bool, w.cell? ⟨b, o + i, none⟩ = some (.bool y) := fun i hi2 => by
        obtain ⟨y, hy⟩ := key0 i hi2
        rw [Addr.add_mid, Nat.mul_one] at hy
        exact ⟨y, hy⟩
      refine ⟨fun i => if hlt : i < len then (key i hlt).choose else false, hl, hm, .inr ⟨b, o, rfl, World.block_lt_of_cell? _ _ (key 0 h0).choose_spec, fun i hilt => ?_⟩⟩
      simp only [hilt, dif_pos]
      exact (key i hilt).choose_spec
end
end
end Go.Proofs.YtodmkmoglchoeaaDoor
