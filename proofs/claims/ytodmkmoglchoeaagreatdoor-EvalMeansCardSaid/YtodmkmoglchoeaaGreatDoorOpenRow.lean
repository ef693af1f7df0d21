/- What comes in: a slice of bytes, opened as a row that can be read. -/
import Derived.Test.YtodmkmoglchoeaaGreatDoorJParse
import Derived.Test.YtodmkmoglchoeaaGreatDoorOpen
namespace Go.Proofs.YtodmkmoglchoeaaGreatDoor
open Go.ChangeShapes Go.WideShapes Go.ChangeAt Go.RowKit Go.Joins

set_option maxRecDepth 100000 in
theorem u8_of_wf {x : Int} (h : (Lit.int .u8 x).wf = true) : 0 ≤ x ∧ x < 256 := by
  simp [Lit.wf, IntKind.min, IntKind.max, IntKind.signed, IntKind.bits] at h
  omega
set_option maxRecDepth 100000 in
theorem open_row {H : Type} {enc : TypeId × Value → H} {w : World} {A : Option Addr} {len cap : Nat} {d : DataW H} {p : List MemPlace}
    (h : DataW.Trod enc Tryz.prog w 0 (fun _ => true) true 22 (.slice A len cap) d p) : ∃ g : Nat → Nat, len ≤ cap ∧ cap ≤ maxLen ∧ ReadsB w A len g := by
  obtain ⟨fuel, hf⟩ := h
  rcases open_ints Tryz.underlying22 Tryz.underlying5 (by kernel_rfl) hf with ⟨hcs, _⟩ | ⟨x, l, c, zs, hcs, _, hl, hm, hz, _, hcell, hwz⟩
  · simp [Value.cells] at hcs
    obtain ⟨rfl, rfl, rfl⟩ := hcs
    exact ⟨fun _ => 0, Nat.le_refl _, Nat.zero_le _, .inl rfl⟩
  · simp [Value.cells] at hcs
    obtain ⟨rfl, rfl, rfl⟩ := hcs
    have hz2 : zs.length = cap := by simpa using hz
    refine ⟨fun i => (zs.getD i 0).toNat, hl, hm, ?_⟩
    rcases Nat.eq_zero_or_pos len with h0 | h0
    · exact .inl h0
    · have hin : ∀ i, i < len → 0 ≤ zs.getD i 0 ∧ zs.getD i 0 < 256 := by
        intro i hi
        have hi2 : i < zs.length := by omega
        refine u8_of_wf (hwz _ ?_)
        rw [List.getD_eq_getElem?_getD, List.getElem?_eq_getElem hi2]
        exact List.getElem_mem hi2
      have h00 := hcell 0 (by omega)
      have hx0 : x.add 0 = x := by simp [Addr.add]
      rw [hx0] at h00
      obtain ⟨b, o, s⟩ := x
      have hs : s = none := World.cell?_spot h00
      subst hs
      refine .inr ⟨b, o, rfl, World.block_lt_of_cell? _ _ h00, fun i hi => ?_, fun i hi => ?_⟩
      · have hc := hcell i (by omega)
        rw [Addr.add_mid] at hc
        rw [hc, Int.toNat_of_nonneg (hin i hi).1]
      · have := hin i hi
        dsimp only
        omega
end Go.Proofs.YtodmkmoglchoeaaGreatDoor
