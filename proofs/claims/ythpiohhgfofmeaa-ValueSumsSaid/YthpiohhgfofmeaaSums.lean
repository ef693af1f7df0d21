/- matchguardref01.Add and Sub: what they return. -/
import Derived.Test.YthpiohhgfofmeaaSum
import Derived.Test.YthpiohhgfofmeaaRef
import Derived.Deep.DeepCutAuto
namespace Go.Proofs.Ythpiohhgfofmeaa
open Go.RowKit

/-- A result's block that nothing has been stored into. -/
structure ResAt (W : World) (r : Nat) : Prop where
  lt : r < W.heap.size
  r0 : W.cell? ⟨r, 0, none⟩ = some (.int .u64 0)
  r1 : W.cell? ⟨r, 1, none⟩ = some (.int .u64 0)
  q0 : W.frozen? ⟨r, 0, none⟩ = false
  q1 : W.frozen? ⟨r, 1, none⟩ = false
theorem ResAt.call {W W' : World} {r : Nat} (h : ResAt W r) (hx : Below W.heap.size W W') : ResAt W' r :=
  ⟨Nat.lt_of_lt_of_le h.lt hx.size, by rw [hx.cell (p := ⟨_, _, none⟩) h.lt]; exact h.r0, by rw [hx.cell (p := ⟨_, _, none⟩) h.lt]; exact h.r1, by rw [hx.frozen (p := ⟨_, _, none⟩) h.lt]; exact h.q0, by rw [hx.frozen (p := ⟨_, _, none⟩) h.lt]; exact h.q1⟩
theorem keepN {W0 W : World} {n p q : Nat} {x0 x1 y0 y1 : Value} (hp : p < n) (hq : q < n) (c0 : W0.cell? ⟨p, 0, none⟩ = some x0) (c1 : W0.cell? ⟨p, 1, none⟩ = some x1) (c2 : W0.cell? ⟨q, 0, none⟩ = some y0) (c3 : W0.cell? ⟨q, 1, none⟩ = some y1) (hb : Below n W0 W) :
    Below n W0 W ∧ W.cell? ⟨p, 0, none⟩ = some x0 ∧ W.cell? ⟨p, 1, none⟩ = some x1 ∧ W.cell? ⟨q, 0, none⟩ = some y0 ∧ W.cell? ⟨q, 1, none⟩ = some y1 :=
  ⟨hb, by rw [hb.cell (p := ⟨_, _, none⟩) hp]; exact c0, by rw [hb.cell (p := ⟨_, _, none⟩) hp]; exact c1, by rw [hb.cell (p := ⟨_, _, none⟩) hq]; exact c2, by rw [hb.cell (p := ⟨_, _, none⟩) hq]; exact c3⟩
theorem belowCallN {W0 W W' : World} {n : Nat} {R : Prop} (hn : n ≤ W0.heap.size) (hx : Below W.heap.size W W') (h : Below n W0 W ∧ R) : Below n W0 W' := h.1.trans (hx.mono (Nat.le_trans hn h.1.size))
set_option maxHeartbeats 4000000 in
theorem radd_any (a b : Nat) (n : Int) (ha : a < 2 ^ 128) (hb : b < 2 ^ 128) (w : World) :
    Calls Try.prog 24 #[.agg #[.int .u64 (hi a), .int .u64 (lo a)], .agg #[.int .u64 (hi b), .int .u64 (lo b)], .int .i64 n] w (RetV (vadd n a b) w) := by
  have _ := ha; have _ := hb
  have HO := Lib.hid (add_of a b n)
  clear ha hb
  go_enter Try.func24, Try.ntmps24
  go_wp2
  have c0 : (((w.alloc (.cells #[.int .u64 (hi a), .int .u64 (lo a)] 24)).alloc (.cells #[.int .u64 (hi b), .int .u64 (lo b)] 24)).alloc (.cells #[.int .u64 0, .int .u64 0] 24)).cell? ⟨w.heap.size, 0, none⟩ = some (.int .u64 (hi a)) := by simp [go_sem]
  have c1 : (((w.alloc (.cells #[.int .u64 (hi a), .int .u64 (lo a)] 24)).alloc (.cells #[.int .u64 (hi b), .int .u64 (lo b)] 24)).alloc (.cells #[.int .u64 0, .int .u64 0] 24)).cell? ⟨w.heap.size, 1, none⟩ = some (.int .u64 (lo a)) := by simp [go_sem]
  have c2 : (((w.alloc (.cells #[.int .u64 (hi a), .int .u64 (lo a)] 24)).alloc (.cells #[.int .u64 (hi b), .int .u64 (lo b)] 24)).alloc (.cells #[.int .u64 0, .int .u64 0] 24)).cell? ⟨w.heap.size + 1, 0, none⟩ = some (.int .u64 (hi b)) := by simp [go_sem]
  have c3 : (((w.alloc (.cells #[.int .u64 (hi a), .int .u64 (lo a)] 24)).alloc (.cells #[.int .u64 (hi b), .int .u64 (lo b)] 24)).alloc (.cells #[.int .u64 0, .int .u64 0] 24)).cell? ⟨w.heap.size + 1, 1, none⟩ = some (.int .u64 (lo b)) := by simp [go_sem]
  have hr : ResAt (((w.alloc (.cells #[.int .u64 (hi a), .int .u64 (lo a)] 24)).alloc (.cells #[.int .u64 (hi b), .int .u64 (lo b)] 24)).alloc (.cells #[.int .u64 0, .int .u64 0] 24)) (w.heap.size + 1 + 1) := ⟨by simp, by simp [go_sem], by simp [go_sem], by simp [go_sem], by simp [go_sem]⟩
  have sz : (((w.alloc (.cells #[.int .u64 (hi a), .int .u64 (lo a)] 24)).alloc (.cells #[.int .u64 (hi b), .int .u64 (lo b)] 24)).alloc (.cells #[.int .u64 0, .int .u64 0] 24)).heap.size = w.heap.size + 3 := by simp
  have bl : Below w.heap.size w (((w.alloc (.cells #[.int .u64 (hi a), .int .u64 (lo a)] 24)).alloc (.cells #[.int .u64 (hi b), .int .u64 (lo b)] 24)).alloc (.cells #[.int .u64 0, .int .u64 0] 24)) := (((Below.refl _ _).alloc (by simp) _).alloc (by simp) _).alloc (by simp; omega) _
  generalize hW : (((w.alloc (.cells #[.int .u64 (hi a), .int .u64 (lo a)] 24)).alloc (.cells #[.int .u64 (hi b), .int .u64 (lo b)] 24)).alloc (.cells #[.int .u64 0, .int .u64 0] 24)) = W0 at c0 c1 c2 c3 hr sz bl ⊢
  clear hW
  have hn : w.heap.size + 2 ≤ W0.heap.size := by omega
  have hp : w.heap.size < w.heap.size + 2 := by omega
  have hq : w.heap.size + 1 < w.heap.size + 2 := by omega
  clear sz
  have hr := hr.call (Below.drew (Below.refl _ W0))
  go_region_held3 (fun w' => Below (w.heap.size + 2) W0 w' ∧ w'.cell? ⟨w.heap.size, 0, none⟩ = some (.int .u64 (hi a)) ∧ w'.cell? ⟨w.heap.size, 1, none⟩ = some (.int .u64 (lo a)) ∧
        w'.cell? ⟨w.heap.size + 1, 0, none⟩ = some (.int .u64 (hi b)) ∧ w'.cell? ⟨w.heap.size + 1, 1, none⟩ = some (.int .u64 (lo b)))
      (first
        | exact keepN hp hq c0 c1 c2 c3 (Below.drew (Below.refl _ _))
        | exact keepN hp hq c0 c1 c2 c3 (belowCallN hn (by assumption) (by assumption))
        | exact keepN hp hq c0 c1 c2 c3 (Below.setCell (Below.setCell (And.left (by assumption)) (by simp) _) (by simp) _))
      (first
        | (go_at_call 47; refine (read_any _ _).mono ?_; rintro e w' ⟨rfl, hx⟩; have hr := hr.call hx)
        | (go_at_call 49; refine (rsum_any _ _ _ _ _).mono ?_; rintro e w' ⟨rfl, hx⟩; have hr := hr.call hx)
        | (go_at_call 46; refine (make_any _ _).mono ?_; rintro e w' ⟨rfl, hx⟩; obtain ⟨_, r0, r1, q0, q1⟩ := hr.call hx))
  all_goals go_wp2
  all_goals go_light
  all_goals
    refine bodyPost_ret (v := .agg #[.int .u64 (hi (vadd n a b)), .int .u64 (lo (vadd n a b))]) (by rw [← HO.out]; simp [results, Try.results24, go_sem, r0, r1]) rfl ⟨rfl, ?_⟩
    exact bl.trans (Below.mono (And.left (by assumption : Below (w.heap.size + 2) W0 _ ∧ _)) (by omega))
set_option maxHeartbeats 4000000 in
theorem rsub_any (a b : Nat) (n : Int) (ha : a < 2 ^ 128) (hb : b < 2 ^ 128) (w : World) :
    Calls Try.prog 26 #[.agg #[.int .u64 (hi a), .int .u64 (lo a)], .agg #[.int .u64 (hi b), .int .u64 (lo b)], .int .i64 n] w (RetV (vsub n a b) w) := by
  have _ := ha; have _ := hb
  have HO := Lib.hid (sub_of a b n ha hb)
  clear ha hb
  go_enter Try.func26, Try.ntmps26
  go_wp2
  have c0 : (((w.alloc (.cells #[.int .u64 (hi a), .int .u64 (lo a)] 24)).alloc (.cells #[.int .u64 (hi b), .int .u64 (lo b)] 24)).alloc (.cells #[.int .u64 0, .int .u64 0] 24)).cell? ⟨w.heap.size, 0, none⟩ = some (.int .u64 (hi a)) := by simp [go_sem]
  have c1 : (((w.alloc (.cells #[.int .u64 (hi a), .int .u64 (lo a)] 24)).alloc (.cells #[.int .u64 (hi b), .int .u64 (lo b)] 24)).alloc (.cells #[.int .u64 0, .int .u64 0] 24)).cell? ⟨w.heap.size, 1, none⟩ = some (.int .u64 (lo a)) := by simp [go_sem]
  have c2 : (((w.alloc (.cells #[.int .u64 (hi a), .int .u64 (lo a)] 24)).alloc (.cells #[.int .u64 (hi b), .int .u64 (lo b)] 24)).alloc (.cells #[.int .u64 0, .int .u64 0] 24)).cell? ⟨w.heap.size + 1, 0, none⟩ = some (.int .u64 (hi b)) := by simp [go_sem]
  have c3 : (((w.alloc (.cells #[.int .u64 (hi a), .int .u64 (lo a)] 24)).alloc (.cells #[.int .u64 (hi b), .int .u64 (lo b)] 24)).alloc (.cells #[.int .u64 0, .int .u64 0] 24)).cell? ⟨w.heap.size + 1, 1, none⟩ = some (.int .u64 (lo b)) := by simp [go_sem]
  have hr : ResAt (((w.alloc (.cells #[.int .u64 (hi a), .int .u64 (lo a)] 24)).alloc (.cells #[.int .u64 (hi b), .int .u64 (lo b)] 24)).alloc (.cells #[.int .u64 0, .int .u64 0] 24)) (w.heap.size + 1 + 1) := ⟨by simp, by simp [go_sem], by simp [go_sem], by simp [go_sem], by simp [go_sem]⟩
  have sz : (((w.alloc (.cells #[.int .u64 (hi a), .int .u64 (lo a)] 24)).alloc (.cells #[.int .u64 (hi b), .int .u64 (lo b)] 24)).alloc (.cells #[.int .u64 0, .int .u64 0] 24)).heap.size = w.heap.size + 3 := by simp
  have bl : Below w.heap.size w (((w.alloc (.cells #[.int .u64 (hi a), .int .u64 (lo a)] 24)).alloc (.cells #[.int .u64 (hi b), .int .u64 (lo b)] 24)).alloc (.cells #[.int .u64 0, .int .u64 0] 24)) := (((Below.refl _ _).alloc (by simp) _).alloc (by simp) _).alloc (by simp; omega) _
  generalize hW : (((w.alloc (.cells #[.int .u64 (hi a), .int .u64 (lo a)] 24)).alloc (.cells #[.int .u64 (hi b), .int .u64 (lo b)] 24)).alloc (.cells #[.int .u64 0, .int .u64 0] 24)) = W0 at c0 c1 c2 c3 hr sz bl ⊢
  clear hW
  have hn : w.heap.size + 2 ≤ W0.heap.size := by omega
  have hp : w.heap.size < w.heap.size + 2 := by omega
  have hq : w.heap.size + 1 < w.heap.size + 2 := by omega
  clear sz
  have hr := hr.call (Below.drew (Below.refl _ W0))
  go_region_held3 (fun w' => Below (w.heap.size + 2) W0 w' ∧ w'.cell? ⟨w.heap.size, 0, none⟩ = some (.int .u64 (hi a)) ∧ w'.cell? ⟨w.heap.size, 1, none⟩ = some (.int .u64 (lo a)) ∧
        w'.cell? ⟨w.heap.size + 1, 0, none⟩ = some (.int .u64 (hi b)) ∧ w'.cell? ⟨w.heap.size + 1, 1, none⟩ = some (.int .u64 (lo b)))
      (first
        | exact keepN hp hq c0 c1 c2 c3 (Below.drew (Below.refl _ _))
        | exact keepN hp hq c0 c1 c2 c3 (belowCallN hn (by assumption) (by assumption))
        | exact keepN hp hq c0 c1 c2 c3 (Below.setCell (Below.setCell (And.left (by assumption)) (by simp) _) (by simp) _))
      (first
        | (go_at_call 47; refine (read_any _ _).mono ?_; rintro e w' ⟨rfl, hx⟩; have hr := hr.call hx)
        | (go_at_call 13; refine (rnot_any _ _ _).mono ?_; rintro e w' ⟨rfl, hx⟩; have hr := hr.call hx)
        | (go_at_call 49; refine (rsum_any _ _ _ _ _).mono ?_; rintro e w' ⟨rfl, hx⟩; have hr := hr.call hx)
        | (go_at_call 46; refine (make_any _ _).mono ?_; rintro e w' ⟨rfl, hx⟩; obtain ⟨_, r0, r1, q0, q1⟩ := hr.call hx))
  all_goals go_wp2
  all_goals go_light
  all_goals
    refine bodyPost_ret (v := .agg #[.int .u64 (hi (vsub n a b)), .int .u64 (lo (vsub n a b))]) (by rw [← HO.out]; simp [results, Try.results26, go_sem, r0, r1]) rfl ⟨rfl, ?_⟩
    exact bl.trans (Below.mono (And.left (by assumption : Below (w.heap.size + 2) W0 _ ∧ _)) (by omega))
end Go.Proofs.Ythpiohhgfofmeaa
