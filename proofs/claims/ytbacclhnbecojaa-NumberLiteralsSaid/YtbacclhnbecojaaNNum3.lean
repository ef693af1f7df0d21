/- Package number: Of, From, isValue, top, negative, Compare, Value, Add, Sub, Neg. -/
import Derived.Test.YtbacclhnbecojaaNNum2
namespace Go.Proofs.Ytbacclhnbecojaa
open Go.RowKit

/-- a result (zero yet) in block r, and a number in block o whose first words have been laid -/
structure FillAt (w : World) (r o : Nat) (g : Nat → Int) (k : Nat) (w' : World) : Prop where
  below : Below w.heap.size w w'
  nr : w.heap.size ≤ r
  no : w.heap.size ≤ o
  ne : r ≠ o
  lt : o < w'.heap.size
  res : RowAt w' r 6 fun _ => .int .u32 0
  out : RowAt w' o 6 fun i => .int .u32 (if i < k then g i else 0)
theorem FillAt.next {w w' : World} {r o : Nat} {g : Nat → Int} {k : Nat} (h : FillAt w r o g k w') (hk : k < 6) (x : Int) (hx : x = g k) :
    FillAt w r o g (k + 1) (w'.setCell ⟨o, k, none⟩ (.int .u32 x)) := by
  subst hx
  exact ⟨h.below.setCell h.no _, h.nr, h.no, h.ne, by rw [World.size_setCell]; exact h.lt, h.res.far _ (fun e => h.ne e.symm) _, h.out.put k hk _ (fun i _ => turn_if (fun _ => 0) g k i)⟩
theorem FillAt.call {w w1 w2 : World} {r o : Nat} {g : Nat → Int} {k : Nat} (h : FillAt w r o g k w1) (hb : Below w1.heap.size w1 w2) (hr : r < w1.heap.size) : FillAt w r o g k w2 :=
  ⟨h.below.trans (hb.mono h.below.size), h.nr, h.no, h.ne, Nat.lt_of_lt_of_le h.lt hb.size, h.res.below hb hr, h.out.below hb h.lt⟩
theorem FillAt.done {w w' : World} {r o : Nat} {z : Int} (h : FillAt w r o (wd z) 6 w') : RowAt w' o 6 (wV z) :=
  h.out.congr fun i hi => by rw [if_pos hi]; rfl
theorem zero6 : #[Value.int IntKind.u32 0, .int .u32 0, .int .u32 0, .int .u32 0, .int .u32 0, .int .u32 0] = rowA 6 fun _ => .int .u32 0 := rfl
theorem FillAt.begun {w W : World} (g : Nat → Int) (hb : Below w.heap.size w W) : FillAt w W.heap.size (W.heap.size + 1) g 0 ((W.alloc (.cells #[.int .u32 0, .int .u32 0, .int .u32 0, .int .u32 0, .int .u32 0, .int .u32 0] 27)).alloc (.cells #[.int .u32 0, .int .u32 0, .int .u32 0, .int .u32 0, .int .u32 0, .int .u32 0] 27)) := by
  rw [zero6]
  have h0 := RowAt.new W 6 (fun _ => .int .u32 0) 27
  have h1 := RowAt.new (W.alloc (.cells (rowA 6 fun _ => .int .u32 0) 27)) 6 (fun _ => .int .u32 0) 27
  simp only [World.size_alloc] at h1
  exact ⟨(hb.alloc hb.size _).alloc (by have := hb.size; simp; omega) _, hb.size, by have := hb.size; omega, by omega, by simp, h0.past (by simp) _, RowAt.congr (f := fun _ => .int .u32 0) h1 fun i _ => by simp⟩

theorem sh_of (n : Int) (k : Nat) : n / pw (k + 1) = n / pw k / 4294967296 := div_succ n k
set_option maxRecDepth 100000 in
set_option maxHeartbeats 1000000 in
theorem nn_of (n : Int) (h0 : -9223372036854775808 ≤ n) (h1 : n < 9223372036854775808) (w : World) :
    Calls Try.prog 13 #[.int .i64 n] w (RetN n w) := by
  have P0 : Hid (n = n / pw 0) := Lib.hid (by rw [pw_0, Int.ediv_one])
  go_enter Try.func13, Try.ntmps13
  go_wp2_with (simp only [zero_num])
  go_loopw [0, 5] (fun t i w' => ∃ k : Nat, k ≤ 6 ∧ i = .int .i64 k ∧ t = .int .i64 (n / pw k) ∧ FillAt w w.heap.size (w.heap.size + 1) (wd n) k w') (fun _ i _ => 6 - (intOf i).toNat)
  case atStart => exact ⟨0, by omega, rfl, congrArg _ P0.out, FillAt.begun _ (Below.refl _ _)⟩
  case round =>
    obtain ⟨k, hk, rfl, rfl, hR⟩ := hrel
    have d0 : -9223372036854775808 ≤ n / pw k := Int.le_ediv_of_mul_le (pw_pos k) (by have := pw_pos k; omega)
    have d1 : n / pw k < 9223372036854775808 := Int.ediv_lt_of_lt_mul (pw_pos k) (by have := pw_pos k; omega)
    by_cases hlt : (k : Int) < 6
    · have i2 : wr.cell? ⟨w.heap.size + 1, k, none⟩ = some _ := hR.out.cell k (by omega)
      have i3 : wr.frozen? ⟨w.heap.size + 1, k, none⟩ = false := hR.out.froz k (by omega)
      go_wp2
      go_roundw
      case rel =>
        go_light
        exact ⟨k + 1, by omega, by simp, by rw [sh_of], hR.next (by omega) _ rfl⟩
      case measure => simp [intOf]; omega
    · have e : k = 6 := by omega
      subst e
      go_wp2_with (first | refine wpList_load_num rfl rfl rfl hR.done ?_ | refine wpList_store_num (fun _ _ => rfl) rfl rfl rfl rfl hR.res.there ?_)
      go_light
      refine bodyPost_ret (v := nV n) (by exact results_num rfl rfl (RowAt.stored hR.res.there (wV n))) rfl ⟨rfl, ?_⟩
      exact belowCells hR.below (by omega) _ _

theorem pw_nat (k : Nat) : pw k = ((2 ^ (k * 32) : Nat) : Int) := by
  induction k with
  | zero => rfl
  | succ k ih => rw [pw_succ, ih, show (k + 1) * 32 = k * 32 + 32 by omega, Nat.pow_add, Int.natCast_mul]; rfl
theorem from_word (v : Nat) (k : Nat) : lo (v / 2 ^ (k * 32)) % 4294967296 = wd v k := by
  unfold lo wd
  rw [pw_nat, ← Int.natCast_ediv]
  omega
theorem pw_le (k : Nat) (hk : 4 ≤ k) : pw 4 ≤ pw k := by
  obtain ⟨j, rfl⟩ := Nat.exists_eq_add_of_le hk
  have h : pw (4 + j) = pw 4 * pw j := Int.pow_add _ _ _
  rw [h]
  have := Int.mul_le_mul_of_nonneg_left (show 1 ≤ pw j from pw_pos j) (Int.le_of_lt (pw_pos 4))
  omega
theorem from_top (v : Nat) (hv : v < 2 ^ 128) (k : Nat) (hk : 4 ≤ k) : wd v k = 0 := by
  have hp := pw_le k hk
  have h4 : pw 4 = 340282366920938463463374607431768211456 := rfl
  unfold wd
  rw [Int.ediv_eq_zero_of_lt (by omega) (by omega)]
  rfl
/-- From's state -/
structure FromAt (w : World) (v k : Nat) (w' : World) : Prop where
  fill : FillAt w (w.heap.size + 1) (w.heap.size + 1 + 1) (wd v) k w'
  h0 : w'.cell? ⟨w.heap.size, 0, none⟩ = some (.int .u64 (hi v))
  h1 : w'.cell? ⟨w.heap.size, 1, none⟩ = some (.int .u64 (lo v))
set_option maxRecDepth 100000 in
set_option maxHeartbeats 1000000 in
theorem nn_from (v : Nat) (hv : v < 2 ^ 128) (w : World) :
    Calls Try.prog 24 #[.agg #[.int .u64 (hi v), .int .u64 (lo v)]] w (RetN v w) := by
  go_enter Try.func24, Try.ntmps24
  go_wp2_with (simp only [zero_num])
  go_loopw [5] (fun i w' => ∃ k : Nat, k ≤ 4 ∧ i = .int .i64 k ∧ FromAt w v k w') (fun i _ => 4 - (intOf i).toNat)
  case atStart =>
    have h := FillAt.begun (w := w) (W := w.alloc (.cells #[.int .u64 (hi v), .int .u64 (lo v)] 48)) (wd v) ((Below.refl _ _).alloc (by simp) _)
    simp only [World.size_alloc] at h
    exact ⟨0, by omega, rfl, h, by simp [go_sem], by simp [go_sem]⟩
  case round =>
    obtain ⟨k, hk, rfl, hR⟩ := hrel
    by_cases hlt : (k : Int) < 4
    · have i2 : wr.cell? ⟨w.heap.size + 1 + 1, k, none⟩ = some _ := hR.fill.out.cell k (by omega)
      have i3 : wr.frozen? ⟨w.heap.size + 1 + 1, k, none⟩ = false := hR.fill.out.froz k (by omega)
      have c0 := hR.h0
      have c1 := hR.h1
      have hs : w.heap.size + 3 ≤ wr.heap.size := hR.fill.lt
      have hl := lo_0 (v / 2 ^ (k * 32))
      have hl2 := lo_1 (v / 2 ^ (k * 32))
      go_wp2_with (first | (go_at_call 46; refine (right_any v ((k : Int) * 32) hv (by omega) _).mono ?_; rintro e w' ⟨rfl, hb⟩; obtain ⟨hc, hf, hz⟩ := after (w.heap.size + 3) hb hs hs) | simp only [run_field_lo])
      go_roundw
      case rel =>
        go_light
        refine ⟨k + 1, by omega, by simp, (hR.fill.call hb (by omega)).next (by omega) _ ?_, ?_, ?_⟩
        · exact from_word v k
        · rw [World.cell?_setCell_far _ _ _ _ (by simp; omega), hc _ _ (by omega)]; exact c0
        · rw [World.cell?_setCell_far _ _ _ _ (by simp; omega), hc _ _ (by omega)]; exact c1
      case measure => simp [intOf]; omega
    · have e : k = 4 := by omega
      subst e
      have hd : RowAt wr (w.heap.size + 1 + 1) 6 (wV v) := hR.fill.out.congr fun i hi => by
        by_cases h : i < 4
        · rw [if_pos h]; rfl
        · rw [if_neg h]; unfold wV; rw [from_top v hv i (by omega)]
      go_wp2_with (first | refine wpList_load_num rfl rfl rfl hd ?_ | refine wpList_store_num (fun _ _ => rfl) rfl rfl rfl rfl hR.fill.res.there ?_)
      go_light
      refine bodyPost_ret (v := nV v) (by exact results_num rfl rfl (RowAt.stored hR.fill.res.there (wV v))) rfl ⟨rfl, ?_⟩
      exact belowCells hR.fill.below (by omega) _ _

theorem store6 {B : Nat} {w0 w : World} (h : Below B w0 w) {b : Nat} (hb : B ≤ b) (v0 v1 v2 v3 v4 v5 : Value) : Below B w0 ((((((w.setCell ⟨b, 0, none⟩ v0).setCell ⟨b, 1, none⟩ v1).setCell ⟨b, 2, none⟩ v2).setCell ⟨b, 3, none⟩ v3).setCell ⟨b, 4, none⟩ v4).setCell ⟨b, 5, none⟩ v5) :=
  (((((h.setCell (p := ⟨b, 0, none⟩) hb _).setCell (p := ⟨b, 1, none⟩) hb _).setCell (p := ⟨b, 2, none⟩) hb _).setCell (p := ⟨b, 3, none⟩) hb _).setCell (p := ⟨b, 4, none⟩) hb _).setCell (p := ⟨b, 5, none⟩) hb _
set_option maxRecDepth 100000 in
set_option maxHeartbeats 1000000 in
theorem nn_add (a b : Int) (w : World) : Calls Try.prog 15 #[nV a, nV b] w (RetN (a + b) w) := by
  rw [nV_lit, nV_lit]
  go_enter Try.func15, Try.ntmps15
  go_wp2_with (go_at_call 32; refine (nn_sum a b 0 (by decide) (by decide) _).mono ?_; rintro e w1 ⟨rfl, hb⟩; obtain ⟨hc, hf, hz⟩ := after (w.heap.size + 3) hb (by simp) (by simp); rw [Int.add_zero])
  refine bodyPost_ret (v := .agg #[.int .u32 (wd (a + b) 0), .int .u32 (wd (a + b) 1), .int .u32 (wd (a + b) 2), .int .u32 (wd (a + b) 3), .int .u32 (wd (a + b) 4), .int .u32 (wd (a + b) 5)]) (by simp [results, Try.results15, go_sem, hc]) rfl ⟨rfl, ?_⟩
  exact store6 (((((Below.refl _ _).alloc (by simp) _).alloc (by simp) _).alloc (by simp; omega) _).trans (hb.mono (by simp; omega))) (by omega) _ _ _ _ _ _

set_option maxRecDepth 100000 in
set_option maxHeartbeats 1000000 in
theorem nn_sub (a b : Int) (w : World) : Calls Try.prog 20 #[nV a, nV b] w (RetN (a - b) w) := by
  have es : a + (-b - 1) + 1 = a - b := by omega
  rw [nV_lit, nV_lit]
  go_enter Try.func20, Try.ntmps20
  go_wp2
  go_region_with (first
    | (go_at_call 39; refine (nn_not b _).mono ?_; rintro e w1 ⟨rfl, hb⟩; obtain ⟨hc, hf, hz⟩ := after (w.heap.size + 3) hb (by simp) (by simp))
    | (go_at_call 32; refine (nn_sum a (-b - 1) 1 (by decide) (by decide) _).mono ?_; rintro e w2 ⟨rfl, hb2⟩; obtain ⟨hc2, hf2, hz2⟩ := after (w.heap.size + 3) hb2 (by have := hb.size; simpa using this) (by have := hb.size; simpa using this); rw [es]))
  all_goals go_wp2
  all_goals refine bodyPost_ret (v := .agg #[.int .u32 (wd (a - b) 0), .int .u32 (wd (a - b) 1), .int .u32 (wd (a - b) 2), .int .u32 (wd (a - b) 3), .int .u32 (wd (a - b) 4), .int .u32 (wd (a - b) 5)]) (by simp [results, Try.results20, go_sem, hc, hc2]) rfl ⟨rfl, ?_⟩
  all_goals refine store6 ?_ (by omega) _ _ _ _ _ _
  all_goals exact (((((Below.refl _ _).alloc (by simp) _).alloc (by simp) _).alloc (by simp; omega) _).drew.trans (hb.mono (by simp; omega))).trans (hb2.mono (by have := hb.size; simp at this; omega))
end Go.Proofs.Ytbacclhnbecojaa
