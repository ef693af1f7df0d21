/- What comes in: values, rows of bytes, lists. -/
import Derived.Test.YtldgjahpmlafgaaGreatPure
import Derived.ProofKit
import Derived.Lib.SmallJoins
import Derived.Below
import Derived.ChangeOld
import Derived.Test.YtldgjahpmlafgaaGreatJParse
import Derived.Test.YtldgjahpmlafgaaGreatJRead
import Derived.Deep.Slices
namespace Go.Proofs.YtldgjahpmlafgaaGreat
/- What comes in: values opened as numbers. -/
section
open Go.ChangeShapes Go.WideShapes Go.ChangeAt Go.RowKit Go.Joins

set_option maxRecDepth 100000 in
theorem own : ownKnob Tryz.prog.godebug = none := by kernel_rfl
set_option maxRecDepth 100000 in
theorem laidOut : laidOutB Tryz.prog = true := by kernel_rfl
set_option maxRecDepth 100000 in
theorem cells_val : Tryz.prog.cellsOf 49 = 2 := by kernel_rfl
set_option maxRecDepth 100000 in
theorem u64_of_wf {x : Int} (h : (Lit.int .u64 x).wf = true) : 0 ≤ x ∧ x < 18446744073709551616 := by
  simp [Lit.wf, IntKind.min, IntKind.max, IntKind.signed, IntKind.bits] at h
  omega
set_option maxRecDepth 100000 in
theorem i64_of_wf {x : Int} (h : (Lit.int .i64 x).wf = true) : -9223372036854775808 ≤ x ∧ x ≤ 9223372036854775807 := by
  simp [Lit.wf, IntKind.min, IntKind.max, IntKind.signed, IntKind.bits] at h
  omega
set_option maxRecDepth 100000 in
theorem hi_of (x y : Int) (hx : 0 ≤ x ∧ x < 18446744073709551616) (hy : 0 ≤ y ∧ y < 18446744073709551616) : hi (x.toNat * 18446744073709551616 + y.toNat) = x ∧ lo (x.toNat * 18446744073709551616 + y.toNat) = y ∧ x.toNat * 18446744073709551616 + y.toNat < 2 ^ 128 := by
  unfold hi lo
  omega
section
variable {H : Type} {enc : TypeId × Value → H} {w : World} {base b0 : Nat} {spare : Nat → Bool} {held : Bool} {v : Value} {d : DataW H} {p : List MemPlace}
set_option maxRecDepth 100000 in
theorem open_val (hv : Value.okWide Tryz.prog w .any b0 49 v) (h : DataW.Trod enc Tryz.prog w base spare held 49 v d p) : ∃ n : Nat, n < 2 ^ 128 ∧ v = .agg #[.int .u64 (hi n), .int .u64 (lo n)] := by
  obtain ⟨c0, c1, y0, y1, m, rfl, rfl, rfl, hy0, hy1⟩ := open_agg2 Tryz.underlying49 (by kernel_rfl) cells_val hv h
  obtain ⟨x, e0, rfl, wx⟩ := DataW.trod_int Tryz.underlying47 hy0
  obtain ⟨y, e1, rfl, wy⟩ := DataW.trod_int Tryz.underlying47 hy1
  simp at e0 e1
  subst e0 e1
  obtain ⟨h1, h2, h3⟩ := hi_of x y (u64_of_wf wx) (u64_of_wf wy)
  exact ⟨_, h3, by rw [h1, h2]⟩
end
end
/- What comes in: a slice of bytes, opened as a row that can be read. -/
section
open Go.ChangeShapes Go.WideShapes Go.ChangeAt Go.RowKit Go.Joins

set_option maxRecDepth 100000 in
theorem u8_of_wf {x : Int} (h : (Lit.int .u8 x).wf = true) : 0 ≤ x ∧ x < 256 := by
  simp [Lit.wf, IntKind.min, IntKind.max, IntKind.signed, IntKind.bits] at h
  omega
set_option maxRecDepth 100000 in
theorem open_row {H : Type} {enc : TypeId × Value → H} {w : World} {A : Option Addr} {len cap : Nat} {d : DataW H} {p : List MemPlace}
    (h : DataW.Trod enc Tryz.prog w 0 (fun _ => true) true 22 (.slice A len cap) d p) : ∃ g : Nat → Nat, len ≤ cap ∧ cap ≤ maxLen ∧ ReadsB w A len g := by
  obtain ⟨fuel, hf⟩ := h
  rcases open_ints Tryz.underlying22 Tryz.underlying5 (by kernel_rfl) hf with ⟨hcs, _⟩ | ⟨x, l, c, zs, hcs, _, hl, hm, hz, _, hcell, hwz⟩
  · simp [Value.cells] at hcs
    obtain ⟨rfl, rfl, rfl⟩ := hcs
    exact ⟨fun _ => 0, Nat.le_refl _, Nat.zero_le _, .inl rfl⟩
  · simp [Value.cells] at hcs
    obtain ⟨rfl, rfl, rfl⟩ := hcs
    have hz2 : zs.length = cap := by simpa using hz
    refine ⟨fun i => (zs.getD i 0).toNat, hl, hm, ?_⟩
    rcases Nat.eq_zero_or_pos len with h0 | h0
    · exact .inl h0
    · have hin : ∀ i, i < len → 0 ≤ zs.getD i 0 ∧ zs.getD i 0 < 256 := by
        intro i hi
        have hi2 : i < zs.length := by omega
        refine u8_of_wf (hwz _ ?_)
        rw [List.getD_eq_getElem?_getD, List.getElem?_eq_getElem hi2]
        exact List.getElem_mem hi2
      have h00 := hcell 0 (by omega)
      have hx0 : x.add 0 = x := by simp [Addr.add]
      rw [hx0] at h00
      obtain ⟨b, o, s⟩ := x
      have hs : s = none := World.cell?_spot h00
      subst hs
      refine .inr ⟨b, o, rfl, World.block_lt_of_cell? _ _ h00, fun i hi => ?_, fun i hi => ?_⟩
      · have hc := hcell i (by omega)
        rw [Addr.add_mid] at hc
        rw [hc, Int.toNat_of_nonneg (hin i hi).1]
      · have := hin i hi
        dsimp only
        omega
end
section
open Go.RowKit
theorem rd_list {w : World} {A : Option Addr} {n : Nat} {g : Nat → Nat} (h : ReadsB w A n g) : ∃ (D : Nat) (l : List Nat), l.length = n ∧ Small l ∧ ReadsL w D A l ∧ (l ≠ [] → D < w.heap.size) := by
  rcases h with rfl | ⟨b, o, rfl, hb, hc, hg⟩
  · exact ⟨0, [], rfl, Small.nil, .inl rfl, fun h => absurd rfl h⟩
  · have hl : ((List.range n).map g).length = n := by simp
    refine ⟨b, (List.range n).map g, hl, fun x hx => ?_, .inr ⟨o, rfl, hb, fun i hi => ?_⟩, fun _ => hb⟩
    · obtain ⟨i, hi, rfl⟩ := List.mem_map.1 hx
      exact hg i (List.mem_range.1 hi)
    · rw [hl] at hi
      rw [hc i hi, List.getD_eq_getElem?_getD, List.getElem?_map, List.getElem?_range hi]
      rfl
end
end Go.Proofs.YtldgjahpmlafgaaGreat
