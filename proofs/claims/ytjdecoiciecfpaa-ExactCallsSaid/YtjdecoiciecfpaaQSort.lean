/- Layer 11: byPoint, and what leaves all that was there, and only draws on. -/
import Derived.Test.YtjdecoiciecfpaaQProg
import Derived.Sort.Grow
namespace Go.Proofs.Ytjdecoiciecfpaa
open Go.RowKit Go.Maps Go.Sort
/-- new blocks and draws alone -/
def Grew (w w' : World) : Prop := ∃ q os, w' = grow (w.drewN q) os
theorem Grew.refl (w : World) : Grew w w := ⟨0, #[], by simp [World.drewN_zero]⟩
theorem Grew.alloc {w w' : World} (h : Grew w w') (o : Obj) : Grew w (w'.alloc o) := by
  obtain ⟨q, os, rfl⟩ := h
  exact ⟨q, os ++ #[o], by rw [alloc_eq_grow, grow_grow]⟩
theorem Grew.drew {w w' : World} (h : Grew w w') : Grew w w'.drew := by
  obtain ⟨q, os, rfl⟩ := h
  exact ⟨q + 1, os, by rw [drew_grow]; rfl⟩
theorem Grew.drewN {w w' : World} (h : Grew w w') (n : Nat) : Grew w (w'.drewN n) := by
  obtain ⟨q, os, rfl⟩ := h
  exact ⟨q + n, os, by rw [← World.drewN_drewN]; rfl⟩
theorem Grew.trans {a b c : World} (h : Grew a b) (k : Grew b c) : Grew a c := by
  obtain ⟨q, os, rfl⟩ := h
  obtain ⟨q2, os2, rfl⟩ := k
  exact ⟨q + q2, os ++ os2, by rw [← grow_grow, ← World.drewN_drewN]; rfl⟩
theorem Grew.below {w w' : World} (h : Grew w w') : Below w.heap.size w w' := by
  obtain ⟨q, os, rfl⟩ := h
  exact ⟨rfl, rfl, rfl, by simp, fun k hk => heap_grow_old _ _ hk⟩
set_option maxRecDepth 100000 in
set_option maxHeartbeats 1000000 in
theorem compare_grew (a b : Nat) (ha : a < 2 ^ 128) (hb : b < 2 ^ 128) (w : World) :
    Calls Try.prog 45 #[.agg #[.int .u64 (hi a), .int .u64 (lo a)], .agg #[.int .u64 (hi b), .int .u64 (lo b)]] w fun e w' => e = .returned (.int .i64 (cmp a b)) ∧ Grew w w' := by
  by_cases h1 : a = b
  · subst h1
    have e : cmp a a = 0 := by simp [cmp]
    rw [e]; clear e ha hb
    go_enter Try.func45, Try.ntmps45
    go_wp2
    go_ret
    exact ⟨rfl, ((Grew.refl _).alloc _).alloc _⟩
  · by_cases h2 : hi a < hi b
    · have e : cmp a b = -1 := by unfold cmp; rw [if_neg h1, if_pos (by unfold hi at h2; omega)]
      have t1 : (hi a == hi b) = false := by simp; omega
      rw [e]; clear e ha hb h1
      go_enter Try.func45, Try.ntmps45
      go_wp2
      go_ret
      exact ⟨rfl, ((Grew.refl _).alloc _).alloc _⟩
    · by_cases h3 : hi a = hi b
      · have h4 : lo a ≠ lo b := fun e => h1 (hi_inj ha hb h3 e)
        by_cases h5 : lo a < lo b
        · have e : cmp a b = -1 := by unfold cmp; rw [if_neg h1, if_pos (by unfold hi at h3; unfold lo at h5; omega)]
          have t2 : (lo a == lo b) = false := by simp; omega
          rw [e]; clear e ha hb h1 h2
          rw [h3]; clear h3
          go_enter Try.func45, Try.ntmps45
          go_wp2
          go_ret
          exact ⟨rfl, ((Grew.refl _).alloc _).alloc _⟩
        · have e : cmp a b = 1 := by unfold cmp; rw [if_neg h1, if_neg (by unfold hi at h3; unfold lo at h5 h4; omega)]
          have t2 : (lo a == lo b) = false := by simp; omega
          have t3 : decide (lo a < lo b) = false := by simp; omega
          rw [e]; clear e ha hb h1 h2
          rw [h3]; clear h3
          go_enter Try.func45, Try.ntmps45
          go_wp2
          go_ret
          exact ⟨rfl, ((Grew.refl _).alloc _).alloc _⟩
      · have e : cmp a b = 1 := by unfold cmp; rw [if_neg h1, if_neg (by unfold hi at h2 h3; omega)]
        have t1 : (hi a == hi b) = false := by simp; omega
        have t3 : decide (hi a < hi b) = false := by simp; omega
        rw [e]; clear e ha hb h1
        go_enter Try.func45, Try.ntmps45
        go_wp2
        go_ret
        exact ⟨rfl, ((Grew.refl _).alloc _).alloc _⟩
/-- eight cells of block b are the point -/
def PtAt (w : World) (b : Nat) (p : Pt) : Prop := b < w.heap.size ∧ ∀ k, k < 4 → w.cell? ⟨b, k * 2, none⟩ = some (.int .u64 (hi (p.at k))) ∧ w.cell? ⟨b, k * 2 + 1, none⟩ = some (.int .u64 (lo (p.at k)))
theorem PtAt.below {w w' : World} {b : Nat} {p : Pt} (h : PtAt w b p) (hb : Below w.heap.size w w') : PtAt w' b p := ⟨Nat.lt_of_lt_of_le h.1 hb.size, fun k hk => by rw [hb.cell (p := ⟨b, _, none⟩) h.1, hb.cell (p := ⟨b, _, none⟩) h.1]; exact h.2 k hk⟩
def f45 : Nat := 45
set_option maxRecDepth 100000 in
set_option maxHeartbeats 1000000 in
theorem qs_CompareFunc {w : World} {b c : Nat} {p q : Pt} (hp : PtAt w b p) (hq : PtAt w c q) : Calls Try.prog 69 #[.slice (some ⟨b, 0, none⟩) 4 4, .slice (some ⟨c, 0, none⟩) 4 4, .func (.func 45) #[] #[]] w fun e w' => e = .returned (.int .i64 (cmpP p q)) ∧ Grew w w' := by
  have HP := Lib.hid hp
  have HQ := Lib.hid hq
  clear hp hq
  go_enter Try.func69, Try.ntmps69
  go_wp2
  go_loopw [13] (fun i W => ∃ k : Nat, k ≤ 4 ∧ i = .int .i64 k ∧ Grew w W ∧ cmpP p q = cmpF p q (4 - k) k) (fun i _ => 4 - (intOf i).toNat)
  case atStart => exact ⟨0, by omega, rfl, Grew.refl _, rfl⟩
  case round =>
    obtain ⟨k, hk, rfl, hg, hc⟩ := hrel
    by_cases hlt : k < 4
    · have HC := Lib.hid hc
      obtain ⟨l1, g1⟩ := HP.out.below hg.below
      obtain ⟨l2, g2⟩ := HQ.out.below hg.below
      obtain ⟨p0, p1⟩ := g1 k hlt
      obtain ⟨q0, q1⟩ := g2 k hlt
      have k1 : (k : Int) < 4 := by omega
      have k0 : 0 ≤ (k : Int) := by omega
      have HG := Lib.hid hg
      have hv := fun W => compare_grew (p.at k) (q.at k) (p.at_lt k) (q.at_lt k) W
      generalize hz : cmp (p.at k) (q.at k) = z at hv
      have HZ := Lib.hid hz
      clear hg hc g1 g2 hz
      go_wp2_with fail
      refine (hv _).mono ?_
      rintro e w3 ⟨rfl, hg3⟩
      have HG3 := Lib.hid ((((HG.out).alloc _).alloc _).trans hg3)
      have e4 : 4 - k = (4 - (k + 1)) + 1 := by omega
      have HC2 : Hid (cmpP p q = if z = 0 then cmpF p q (4 - (k + 1)) (k + 1) else z) := Lib.hid (by rw [HC.out, e4, cmpF, HZ.out])
      clear hg3 e4 hv p0 p1 q0 q1
      by_cases hz : z = 0
      · subst hz
        go_wp2_with fail
        go_roundw
        case rel => exact ⟨k + 1, by omega, by simp, HG3.out, by have := HC2.out; simpa using this⟩
        case measure => simp [intOf]; omega
      · have hz2 : (z == 0) = false := by simpa using hz
        have HZ3 := Lib.hid hz
        go_wp2_with fail
        go_ret
        exact ⟨by rw [HC2.out, if_neg HZ3.out]; rfl, HG3.out⟩
    · obtain rfl : k = 4 := by omega
      go_wp2_with fail
      go_ret
      exact ⟨by rw [hc]; rfl, hg⟩
theorem pairAt {p : Pt} (v : Value) (j : Nat) (hj : j < 8) {u : Value} (h : p.cells[j]? = some u) : (p.cells ++ [v]).toArray[j]? = some u := by
  rw [List.getElem?_toArray, List.getElem?_append_left hj, h]
set_option maxRecDepth 100000 in
set_option maxHeartbeats 1000000 in
theorem qs_byPoint (p q : Pt) (m n : Int) (w : World) : Calls Try.prog 77 #[.agg (p.cells ++ [Value.int .i64 m]).toArray, .agg (q.cells ++ [Value.int .i64 n]).toArray] w fun e w' => e = .returned (.int .i64 (cmpP p q)) ∧ Grew w w' := by
  obtain ⟨w2, hw2⟩ : ∃ w2, w2 = ((w.alloc (.cells (p.cells ++ [Value.int .i64 m]).toArray 84)).alloc (.cells (q.cells ++ [Value.int .i64 n]).toArray 84)) := ⟨_, rfl⟩
  have hc : Calls Try.prog 69 #[.slice (some ⟨w.heap.size, 0, none⟩) 4 4, .slice (some ⟨w.heap.size + 1, 0, none⟩) 4 4, .func (.func 45) #[] #[]] w2.drew fun e w' => e = .returned (.int .i64 (cmpP p q)) ∧ Grew w2.drew w' := by
    have b0 : w2.heap[w.heap.size]? = some (.cells (p.cells ++ [Value.int .i64 m]).toArray 84 (0, 0)) := by rw [hw2, heap_alloc_old _ _ (by simp), heap_alloc_new]
    have b1 : w2.heap[w.heap.size + 1]? = some (.cells (q.cells ++ [Value.int .i64 n]).toArray 84 (0, 0)) := by
      rw [hw2]
      have := heap_alloc_new (w.alloc (.cells (p.cells ++ [Value.int .i64 m]).toArray 84)) (.cells (q.cells ++ [Value.int .i64 n]).toArray 84)
      simpa using this
    have hsz : w2.heap.size = w.heap.size + 2 := by rw [hw2]; simp
    refine qs_CompareFunc ⟨by simp; omega, fun k hk => ?_⟩ ⟨by simp; omega, fun k hk => ?_⟩
    · obtain ⟨h1, h2⟩ := p.cells_at k hk
      exact ⟨blk_cellQ (w := w2.drew) b0 _ _ (pairAt _ _ (by omega) h1), blk_cellQ (w := w2.drew) b0 _ _ (pairAt _ _ (by omega) h2)⟩
    · obtain ⟨h1, h2⟩ := q.cells_at k hk
      exact ⟨blk_cellQ (w := w2.drew) b1 _ _ (pairAt _ _ (by omega) h1), blk_cellQ (w := w2.drew) b1 _ _ (pairAt _ _ (by omega) h2)⟩
  have HW := Lib.hid hw2
  rw [hw2] at hc
  clear hw2
  unfold Pt.cells at hc ⊢
  go_enter Try.func77, Try.ntmps77
  go_wp2_with fail
  go_region_with (go_at_call 69; refine hc.mono ?_; rintro e w' ⟨rfl, hg⟩)
  all_goals go_wp2_with fail
  all_goals go_ret
  all_goals exact ⟨rfl, ((((Grew.refl _).alloc _).alloc _).drew).trans hg⟩
end Go.Proofs.Ytjdecoiciecfpaa
