/- Package number: Value. -/
import Derived.Test.YtoiofbpmgihkfaaDoorNNum5
namespace Go.Proofs.YtoiofbpmgihkfaaDoor
open Go.RowKit

/-- what the first k words of n are worth -/
def lowV (n k : Nat) : Nat := n % 2 ^ (k * 32)
theorem lowV_0 (n : Nat) : lowV n 0 = 0 := by unfold lowV; simp [Nat.mod_one]
theorem lowV_lt (n k : Nat) (hk : k ≤ 4) : lowV n k < 2 ^ 128 :=
  Nat.lt_of_lt_of_le (Nat.mod_lt _ (Nat.pow_pos (by decide))) (Nat.pow_le_pow_right (by decide) (by omega))
def wdN (n k : Nat) : Nat := n / 2 ^ (k * 32) % 4294967296
theorem wdN_eq (n k : Nat) : wd n k = (wdN n k : Int) := by
  unfold wd wdN
  rw [pw_nat, ← Int.natCast_ediv]
  omega
theorem wdN_lt (n k : Nat) : wdN n k < 4294967296 := Nat.mod_lt _ (by decide)
theorem lowV_step (n k : Nat) (hk : k < 4) : lowV n k ||| (wdN n k * 2 ^ (k * 32) % 2 ^ 128) = lowV n (k + 1) := by
  have e1 : 2 ^ ((k + 1) * 32) = 2 ^ (k * 32) * 4294967296 := by rw [Nat.add_mul, Nat.pow_add]
  have hlt : wdN n k * 2 ^ (k * 32) < 2 ^ 128 := by
    have h1 : wdN n k * 2 ^ (k * 32) < 4294967296 * 2 ^ (k * 32) := Nat.mul_lt_mul_of_pos_right (wdN_lt n k) (Nat.pow_pos (by decide))
    have h2 : 4294967296 * 2 ^ (k * 32) ≤ 2 ^ 128 := by
      rw [show (4294967296 : Nat) = 2 ^ 32 by decide, ← Nat.pow_add]
      exact Nat.pow_le_pow_right (by decide) (by omega)
    omega
  rw [Nat.mod_eq_of_lt hlt]
  have h := Nat.shiftLeft_add_eq_or_of_lt (i := k * 32) (b := lowV n k) (Nat.mod_lt _ (Nat.pow_pos (by decide))) (wdN n k)
  rw [Nat.shiftLeft_eq] at h
  rw [Nat.or_comm, ← h]
  unfold lowV wdN
  rw [e1, Nat.mod_mul]
  rw [Nat.mul_comm]; omega
theorem lowV_4 (n : Nat) (h : n < 2 ^ 128) : lowV n 4 = n := Nat.mod_eq_of_lt h

/-- Value's state: the number in its box, the result (zero yet), the value of the first k words in block V -/
structure ValAt (w : World) (V n k : Nat) (w' : World) : Prop where
  below : Below w.heap.size w w'
  nv : w.heap.size + 2 ≤ V
  lt : V < w'.heap.size
  ra : RowAt w' w.heap.size 6 (wV n)
  r0 : w'.cell? ⟨w.heap.size + 1, 0, none⟩ = some (.int .u64 0)
  r1 : w'.cell? ⟨w.heap.size + 1, 1, none⟩ = some (.int .u64 0)
  q0 : w'.frozen? ⟨w.heap.size + 1, 0, none⟩ = false
  q1 : w'.frozen? ⟨w.heap.size + 1, 1, none⟩ = false
  v0 : w'.cell? ⟨V, 0, none⟩ = some (.int .u64 (hi (lowV n k)))
  v1 : w'.cell? ⟨V, 1, none⟩ = some (.int .u64 (lo (lowV n k)))
  f0 : w'.frozen? ⟨V, 0, none⟩ = false
  f1 : w'.frozen? ⟨V, 1, none⟩ = false
theorem ValAt.drew {w w1 : World} {V n k : Nat} (h : ValAt w V n k w1) : ValAt w V n k w1.drew := ⟨h.below.drew, h.nv, h.lt, h.ra.drew, h.r0, h.r1, h.q0, h.q1, h.v0, h.v1, h.f0, h.f1⟩
theorem ValAt.call {w w1 w2 : World} {V n k : Nat} (h : ValAt w V n k w1) (hb : Below w1.heap.size w1 w2) : ValAt w V n k w2 := by
  have hs := h.lt
  have hv := h.nv
  have c : ∀ b o, b ≤ V → w2.cell? ⟨b, o, none⟩ = w1.cell? ⟨b, o, none⟩ := fun b o hl => hb.cell (p := ⟨b, o, none⟩) (by show b < _; omega)
  have f : ∀ b o, b ≤ V → w2.frozen? ⟨b, o, none⟩ = w1.frozen? ⟨b, o, none⟩ := fun b o hl => hb.frozen (p := ⟨b, o, none⟩) (by show b < _; omega)
  exact ⟨h.below.trans (hb.mono (by omega)), h.nv, Nat.lt_of_lt_of_le h.lt hb.size, h.ra.below hb (by omega), by rw [c _ _ (by omega)]; exact h.r0, by rw [c _ _ (by omega)]; exact h.r1, by rw [f _ _ (by omega)]; exact h.q0, by rw [f _ _ (by omega)]; exact h.q1,
    by rw [c _ _ (by omega)]; exact h.v0, by rw [c _ _ (by omega)]; exact h.v1, by rw [f _ _ (by omega)]; exact h.f0, by rw [f _ _ (by omega)]; exact h.f1⟩
theorem ValAt.set {w w1 : World} {V n k : Nat} (h : ValAt w V n k w1) (j : Nat) : ValAt w V n j ((w1.setCell ⟨V, 0, none⟩ (.int .u64 (hi (lowV n j)))).setCell ⟨V, 1, none⟩ (.int .u64 (lo (lowV n j)))) := by
  have hv := h.nv
  refine ⟨(h.below.setCell (by simp; omega) _).setCell (by simp; omega) _, hv, by rw [World.size_setCell, World.size_setCell]; exact h.lt, (h.ra.far _ (by simp; omega) _).far _ (by simp; omega) _, ?_, ?_, ?_, ?_, ?_, ?_, ?_, ?_⟩
  · rw [World.cell?_setCell_far _ _ _ _ (by simp; omega), World.cell?_setCell_far _ _ _ _ (by simp; omega)]; exact h.r0
  · rw [World.cell?_setCell_far _ _ _ _ (by simp; omega), World.cell?_setCell_far _ _ _ _ (by simp; omega)]; exact h.r1
  · rw [World.frozen?_setCell, World.frozen?_setCell]; exact h.q0
  · rw [World.frozen?_setCell, World.frozen?_setCell]; exact h.q1
  · rw [World.cell?_setCell_other _ _ _ _ (by simp), World.cell?_setCell_same' _ _ _ (by rw [h.v0]; rfl)]
  · rw [World.cell?_setCell_same' _ _ _ (by rw [World.cell?_setCell_other _ _ _ _ (by simp), h.v1]; rfl)]
  · rw [World.frozen?_setCell, World.frozen?_setCell]; exact h.f0
  · rw [World.frozen?_setCell, World.frozen?_setCell]; exact h.f1
theorem ValAt.begun {w w1 : World} {n : Nat} (hb : Below (w.heap.size + 2) ((w.alloc (.cells #[.int .u32 (wd n 0), .int .u32 (wd n 1), .int .u32 (wd n 2), .int .u32 (wd n 3), .int .u32 (wd n 4), .int .u32 (wd n 5)] 107)).alloc (.cells #[.int .u64 0, .int .u64 0] 53)) w1) : ValAt w w1.heap.size n 0 (w1.alloc (.cells #[.int .u64 0, .int .u64 0] 53)) := by
  have h0 := RowAt.new w 6 (wV n) 107
  have e0 : hi (lowV n 0) = 0 := by rw [lowV_0]; rfl
  have e1 : lo (lowV n 0) = 0 := by rw [lowV_0]; rfl
  have hs : w.heap.size + 2 ≤ w1.heap.size := by have := hb.size; simpa using this
  have c : ∀ b o, b < w.heap.size + 2 → w1.cell? ⟨b, o, none⟩ = _ := fun b o hl => hb.cell (p := ⟨b, o, none⟩) hl
  have f : ∀ b o, b < w.heap.size + 2 → w1.frozen? ⟨b, o, none⟩ = _ := fun b o hl => hb.frozen (p := ⟨b, o, none⟩) hl
  refine ⟨((((Below.refl _ _).alloc (by simp) _).alloc (by simp) _).trans (hb.mono (by omega))).alloc (by omega) _, hs, by simp, ((h0.past (by simp) _).below hb (by omega)).past (by omega) _, ?_, ?_, ?_, ?_, by rw [e0]; simp [go_sem], by rw [e1]; simp [go_sem], by simp [go_sem], by simp [go_sem]⟩
  · rw [World.cell?_alloc_past _ _ _ (by omega), c _ _ (by omega)]; simp [go_sem]
  · rw [World.cell?_alloc_past _ _ _ (by omega), c _ _ (by omega)]; simp [go_sem]
  · rw [World.frozen?_alloc_past _ _ _ (by omega), f _ _ (by omega)]; simp [go_sem]
  · rw [World.frozen?_alloc_past _ _ _ (by omega), f _ _ (by omega)]; simp [go_sem]
/-- The call returns the value n and true; nothing that there was is changed. -/
def RetVB (n : Nat) (b : Bool) (w : World) (e : Ending) (w' : World) : Prop := e = .returned (.tuple #[.agg #[.int .u64 (hi n), .int .u64 (lo n)], .bool b]) ∧ Below w.heap.size w w'
theorem store2 {B : Nat} {w0 w : World} (h : Below B w0 w) {b : Nat} (hb : B ≤ b) (v0 v1 : Value) : Below B w0 ((w.setCell ⟨b, 0, none⟩ v0).setCell ⟨b, 1, none⟩ v1) :=
  (h.setCell (p := ⟨b, 0, none⟩) hb _).setCell (p := ⟨b, 1, none⟩) hb _
theorem isV_nat (n : Nat) (h : n < 2 ^ 128) : isV n = true := by unfold isV; rw [decide_eq_true_iff]; omega
theorem rg_nat (n : Nat) (h : n < 2 ^ 128) : Rg n := by unfold Rg; omega
set_option maxRecDepth 100000 in
set_option maxHeartbeats 2000000 in
theorem nn_val_yes (n : Nat) (hn : n < 2 ^ 128) (w : World) : Calls Tryd.prog 107 #[nV n] w (RetVB n true w) := by
  have hI := isV_nat n hn
  have hG := rg_nat n hn
  have HL := Lib.hid (lowV_4 n hn)
  have HN := Lib.hid hn
  clear hn
  rw [nV_lit]
  go_enter Tryd.func107, Tryd.ntmps107
  go_wp2_with (go_at_call 85; refine (nn_isv n hG _).mono ?_; rintro e w1 ⟨rfl, hb⟩; rw [hI])
  have hV0 := ValAt.begun (hb.mono (by simp))
  generalize hV : w1.heap.size = V at hV0 ⊢
  clear hV hb hI
  go_loopw [10] (fun i w' => ∃ k : Nat, k ≤ 4 ∧ i = .int .i64 k ∧ ValAt w V n k w') (fun i _ => 4 - (intOf i).toNat)
  case atStart => exact ⟨0, by omega, rfl, hV0⟩
  case round =>
    obtain ⟨k, hk, rfl, hR⟩ := hrel
    clear hV0
    by_cases hlt : (k : Int) < 4
    · have HS := Lib.hid (lowV_step n k (by omega))
      have i0 : wr.cell? ⟨w.heap.size, k, none⟩ = some (.int .u32 (wd n k)) := hR.ra.cell k (by omega)
      rw [wdN_eq] at i0
      have hw := wdN_lt n k
      have v0 := hR.v0
      have v1 := hR.v1
      have f0 := hR.f0
      have f1 := hR.f1
      have hl := hR.lt
      have hnv := hR.nv
      have hm0 : 0 ≤ (k : Int) * 32 := by omega
      have hm1 : IntKind.i64.wrap ((k : Int) * 32) = (k : Int) * 32 := IntWalk.i64_in _ (by omega)
      have hk6 : (k : Int) < 6 := by omega
      have hw2 : IntKind.u64.wrap (wdN n k : Int) = (wdN n k : Int) := IntWalk.u64_in _ (by omega)
      go_wp2
      go_region_with (first
        | (go_at_call 109; refine (of_any (wdN n k) (by omega) _).mono ?_; rintro e w2 ⟨rfl, hb2⟩; have hR2 := ValAt.call hR.drew hb2; have a2 := hR2.v0; have b2 := hR2.v1; have c2 := hR2.f0; have d2 := hR2.f1)
        | (go_at_call 115; refine (left_any (wdN n k) ((k : Int) * 32) (by omega) (by omega) _).mono ?_; rintro e w3 ⟨rfl, hb3⟩; have hR3 := ValAt.call hR2 hb3; have a3 := hR3.v0; have b3 := hR3.v1; have c3 := hR3.f0; have d3 := hR3.f1)
        | (go_at_call 114; refine (or_any (lowV n k) (vleft (wdN n k) ((k : Int) * 32).toNat) _).mono ?_; rintro e w4 ⟨rfl, hb4⟩; have hR4 := ValAt.call hR3 hb4; have a4 := hR4.v0; have b4 := hR4.v1; have c4 := hR4.f0; have d4 := hR4.f1))
      all_goals go_wp2
      all_goals go_roundw
      all_goals go_light
      all_goals try (case measure => simp [intOf]; omega)
      all_goals have e : lowV n k ||| vleft (wdN n k) (k * 32) = lowV n (k + 1) := HS.out
      all_goals rw [e]
      all_goals exact ⟨k + 1, by omega, by simp, hR4.set (k + 1)⟩
    · have e : k = 4 := by omega
      subst e
      have r0 := hR.r0
      have r1 := hR.r1
      have q0 := hR.q0
      have q1 := hR.q1
      have v0 := hR.v0
      have v1 := hR.v1
      have hnv := hR.nv
      rw [HL.out] at v0 v1
      go_wp2
      refine bodyPost_ret (v := .tuple #[.agg #[.int .u64 (hi n), .int .u64 (lo n)], .bool true]) (by simp [results, Tryd.results107, go_sem, r0, r1]) rfl ⟨rfl, ?_⟩
      exact store2 hR.below (by omega) _ _
set_option maxRecDepth 100000 in
set_option maxHeartbeats 2000000 in
theorem nn_val_no (z : Int) (h : Rg z) (hI : isV z = false) (w : World) : Calls Tryd.prog 107 #[nV z] w (RetVB 0 false w) := by
  rw [nV_lit]
  go_enter Tryd.func107, Tryd.ntmps107
  go_wp2_with (go_at_call 85; refine (nn_isv z h _).mono ?_; rintro e w1 ⟨rfl, hb⟩; rw [hI]; obtain ⟨hc, hf, hz⟩ := after (w.heap.size + 2) hb (by simp) (by simp))
  refine bodyPost_ret (v := .tuple #[.agg #[.int .u64 0, .int .u64 0], .bool false]) (by simp [results, Tryd.results107, go_sem, hc]) rfl ⟨rfl, ?_⟩
  exact store2 ((((Below.refl _ _).alloc (by simp) _).alloc (by simp) _).trans (hb.mono (by simp; omega))) (by omega) _ _
end Go.Proofs.YtoiofbpmgihkfaaDoor
