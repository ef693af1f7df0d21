/- What comes in: slices of values and of truth values. -/
import Derived.Test.YtodmkmoglchoeaaGreatDoorNBegun
import Derived.Test.YtodmkmoglchoeaaGreatDoorOpen
import Derived.Deep.Slices
namespace Go.Proofs.YtodmkmoglchoeaaGreatDoor
open Go.ChangeShapes Go.WideShapes Go.ChangeAt Go.RowKit Go.Joins Go.Deep

set_option maxRecDepth 100000 in
theorem cells_u64 : Tryz.prog.cellsOf 101 = 1 := by kernel_rfl
section
variable {H : Type} {enc : TypeId × Value → H} {w : World} {d : DataW H} {p : List MemPlace}
set_option maxRecDepth 100000 in
theorem open_value {fuel : Nat} {cs : List Value} {x : DataW H × List MemPlace} (hl : cs.length = 2)
    (h : DataW.trod enc Tryz.prog w 0 (fun _ => true) true fuel 103 cs = some x) : ∃ n : Nat, n < 2 ^ 128 ∧ cs = [.int .u64 (hi n), .int .u64 (lo n)] := by
  obtain ⟨zs, m, _, _, _, hzl, hg⟩ := DataW.trod_struct Tryz.underlying103 h
  match cs, hl with
  | [c3, c4], _ =>
    match zs, hzl with
    | [z0, z1], _ =>
      have g0 : DataW.trod enc Tryz.prog w 0 (fun _ => true) true m 101 (List.take (Tryz.prog.cellsOf 101) (List.drop 0 [c3, c4])) = some z0 := hg 0 _ rfl
      have g1 : DataW.trod enc Tryz.prog w 0 (fun _ => true) true m 101 (List.take (Tryz.prog.cellsOf 101) (List.drop 1 [c3, c4])) = some z1 := hg 1 _ rfl
      rw [cells_u64] at g0 g1
      obtain ⟨vh, e3, _, w3⟩ := DataW.trod_int Tryz.underlying101 g0
      obtain ⟨vl, e4, _, w4⟩ := DataW.trod_int Tryz.underlying101 g1
      simp only [List.drop_zero, List.drop_succ_cons, List.take_succ_cons, List.take_zero, List.cons.injEq, and_true] at e3 e4
      subst e3 e4
      obtain ⟨q1, q2, q3⟩ := hi_of vh vl (u64_of_wf w3) (u64_of_wf w4)
      exact ⟨_, q3, by rw [q1, q2]⟩
set_option maxRecDepth 100000 in
theorem open_vals {A : Option Addr} {len cap : Nat} (h : DataW.Trod enc Tryz.prog w 0 (fun _ => true) true 42 (.slice A len cap) d p) : ∃ f : Nat → Nat, len ≤ cap ∧ cap ≤ maxLen ∧ (∀ i, f i < 2 ^ 128) ∧ ValsB w A len f := by
  obtain ⟨fuel, hf⟩ := h
  rcases open_slice Tryz.underlying42 hf with ⟨hcs, _⟩ | ⟨a, l, c, m, n, D, Pl, hcs, _, hl, hm, hmm, _, hi'⟩
  · simp [Value.cells] at hcs
    obtain ⟨rfl, rfl, rfl⟩ := hcs
    exact ⟨fun _ => 0, Nat.le_refl _, Nat.zero_le _, fun _ => (by decide : (0 : Nat) < 2 ^ 128), .inl rfl⟩
  · simp [Value.cells] at hcs
    obtain ⟨rfl, rfl, rfl⟩ := hcs
    have hmc : m = cap := by simpa using hmm
    subst hmc
    rcases Nat.eq_zero_or_pos len with h0 | h0
    · exact ⟨fun _ => 0, hl, hm, fun _ => (by decide : (0 : Nat) < 2 ^ 128), .inl h0⟩
    · have hsp : a.spot = none := by
        obtain ⟨cs', hc, _⟩ := hi' 0 (by omega)
        rw [cells_val] at hc
        obtain ⟨_, hcl, hat⟩ := World.cells?_some hc
        have h1 := hat 0 (by omega)
        have h2 : w.cell? (a.add (0 * 2)) = some (cs'[0]'(by omega)) := by
          have := h1
          rw [List.getElem?_eq_getElem (by omega)] at this
          have e : (a.add (0 * 2)).add 0 = a.add (0 * 2) := by simp [Addr.add]
          rwa [e] at this
        have e : a.add (0 * 2) = a := by simp [Addr.add]
        rw [e] at h2
        exact World.cell?_spot h2
      obtain ⟨b, o, s⟩ := a
      simp only at hsp
      subst hsp
      have key : ∀ i, i < len → ∃ y : Nat, y < 2 ^ 128 ∧ w.cell? ⟨b, o + i * 2, none⟩ = some (.int .u64 (hi y)) ∧ w.cell? ⟨b, o + i * 2 + 1, none⟩ = some (.int .u64 (lo y)) := by
        intro i hilt
        obtain ⟨cs', hc, ht⟩ := hi' i (by omega)
        rw [cells_val] at hc
        obtain ⟨_, hcl, hat⟩ := World.cells?_some hc
        have hcell : ∀ j, j < 2 → w.cell? ⟨b, o + i * 2 + j, none⟩ = cs'[j]? := fun j hj => by
          have := hat j hj
          rw [Addr.add_mid, Addr.add_mid] at this
          exact this
        obtain ⟨y, hy, e⟩ := open_value hcl ht
        refine ⟨y, hy, ?_, ?_⟩
        · have := hcell 0 (by decide); rw [e] at this; simpa using this
        · have := hcell 1 (by decide); rw [e] at this; simpa using this
      refine ⟨fun i => if hlt : i < len then (key i hlt).choose else 0, hl, hm, fun i => ?_, .inr ⟨b, o, rfl, World.block_lt_of_cell? _ _ (key 0 h0).choose_spec.2.1, fun i hilt => ?_⟩⟩
      · by_cases hlt : i < len
        · simp only [hlt, dif_pos]; exact (key i hlt).choose_spec.1
        · simp only [hlt, dif_neg, not_false_eq_true]; decide
      · simp only [hilt, dif_pos]
        exact (key i hilt).choose_spec.2
end
end Go.Proofs.YtodmkmoglchoeaaGreatDoor
