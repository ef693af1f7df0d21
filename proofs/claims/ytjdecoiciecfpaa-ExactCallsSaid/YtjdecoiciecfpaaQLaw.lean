/- Layer 11: what the laws share: a call's point, the chapter's example. -/
import Derived.Test.YtjdecoiciecfpaaQAll
import Derived.Test.YtjdecoiciecfpaaQOpen
namespace Go.Proofs.Ytjdecoiciecfpaa
open Go.RowKit Go.Maps Go.Sort
/-- the point of a call -/
def opPt (l : Nat) (p : Pt) : Pt := if 0 < l % 4 then ⟨l / 4 % 3, l / 16 % 2 * 18446744073709551616, 0, l / 64 % 256, by omega, by omega, by omega, by omega⟩ else p
theorem hl_small (x : Nat) (h : x < 18446744073709551616) : hi x = 0 ∧ lo x = (x : Int) := by unfold hi lo; omega
theorem hl_big (x : Nat) (h : x < 18446744073709551616) : hi (x * 18446744073709551616) = (x : Int) ∧ lo (x * 18446744073709551616) = 0 := by unfold hi lo; omega
def RetPt (q : Pt) (w : World) (e : Ending) (w' : World) : Prop := e = .returned (ptV q) ∧ Below w.heap.size w w'
set_option maxRecDepth 100000 in
set_option maxHeartbeats 2000000 in
theorem qo_point (kind id : Int) (l : Nat) (hl : l < 256) (p : Pt) (w : World) : Calls Try.prog 30 #[.agg #[.int .i64 kind, .int .u8 l, .int .u64 (hi p.a), .int .u64 (lo p.a), .int .u64 (hi p.b), .int .u64 (lo p.b), .int .u64 (hi p.c), .int .u64 (lo p.c), .int .u64 (hi p.d), .int .u64 (lo p.d), .int .i64 id]] w (RetPt (opPt l p) w) := by
  unfold RetPt
  by_cases h : 0 < l % 4
  · have e : ptV (opPt l p) = .agg #[.int .u64 0, .int .u64 ((l / 4 % 3 : Nat) : Int), .int .u64 ((l / 16 % 2 : Nat) : Int), .int .u64 0, .int .u64 0, .int .u64 0, .int .u64 0, .int .u64 ((l / 64 : Nat) : Int)] := by
      unfold opPt ptV
      rw [if_pos h]
      have h1 := hl_small (l / 4 % 3) (by omega)
      have h2 := hl_big (l / 16 % 2) (by omega)
      have h3 := hl_small 0 (by omega)
      have h4 := hl_small (l / 64 % 256) (by omega)
      have h5 : l / 64 % 256 = l / 64 := by omega
      rw [h5] at h4
      simp only [h1, h2, h3, h4, h5]
      rfl
    rw [e]
    have hI : (0 : Int) < (l : Int) % 4 := by omega
    go_enter Try.func30, Try.ntmps30
    go_wp2
    refine bodyPost_ret (v := .agg #[.int .u64 0, .int .u64 ((l : Int) / 4 % 3), .int .u64 ((l : Int) / 16 % 2), .int .u64 0, .int .u64 0, .int .u64 0, .int .u64 0, .int .u64 ((l : Int) / 64)]) (by simp [results, Try.results30, go_sem]) rfl ?_
    exact ⟨rfl, ((Below.refl _ w).alloc (Nat.le_refl _) _).alloc (by simp) _⟩
  · have e : opPt l p = p := by unfold opPt; rw [if_neg h]
    rw [e]
    have hI : ¬ (0 : Int) < (l : Int) % 4 := by omega
    unfold ptV
    go_enter Try.func30, Try.ntmps30
    go_wp2
    refine bodyPost_ret (v := .agg #[.int .u64 (hi p.a), .int .u64 (lo p.a), .int .u64 (hi p.b), .int .u64 (lo p.b), .int .u64 (hi p.c), .int .u64 (lo p.c), .int .u64 (hi p.d), .int .u64 (lo p.d)]) (by simp [results, Try.results30, go_sem]) rfl ?_
    exact ⟨rfl, ((Below.refl _ w).alloc (Nat.le_refl _) _).alloc (by simp) _⟩
theorem ptV0 : ptV pt0 = .agg #[.int .u64 0, .int .u64 0, .int .u64 0, .int .u64 0, .int .u64 0, .int .u64 0, .int .u64 0, .int .u64 0] := rfl
set_option maxRecDepth 100000 in
set_option maxHeartbeats 2000000 in
theorem qb_begun (w : World) : Calls Try.prog 40 #[] w (RetX (.bool true) w) := by
  have hN := qx_New w
  have hz := ptV0
  go_enter Try.func40, Try.ntmps40
  go_wp2_with ((with_reducible refine hN.mono ?_); rintro e w1 ⟨rfl, hb1, hI1⟩)
  have hm1 : pt0 ∈ putL pt0 [] := (putL_mem pt0 pt0 []).2 (.inl rfl)
  have HB1 := Lib.hid hb1
  have h1 := qx_Put (hI1 fun _ => 0) (by omega) pt0 5 (by decide)
  rw [hz] at h1
  clear hb1 hI1 hN
  refine h1.mono ?_
  clear h1
  rintro e w2 (⟨h, _⟩ | ⟨_, rfl, m, hm, hI2, hT2⟩)
  · cases h
  have HT2 := Lib.hid hT2
  have HM := Lib.hid hm
  have HI2 := Lib.hid hI2
  have h2 := qx_Put hI2 (by omega) pt0 6 (by decide)
  rw [hz] at h2
  clear hT2 hI2 hm
  go_wp2_with fail
  refine h2.mono ?_
  clear h2
  rintro e w3 (⟨_, rfl, hb3⟩ | ⟨h, _⟩)
  rotate_left
  · exact absurd hm1 h
  have HB3 := Lib.hid hb3
  have h3 := qx_Get (HI2.out.below hb3) pt0
  have e3 : updF (fun _ => 0) pt0 5 pt0 = 5 := by rw [updF, if_pos rfl]
  unfold RetGet at h3
  rw [hz, if_pos hm1, decide_eq_true hm1, e3] at h3
  clear hb3 e3
  go_wp2_with ((with_reducible refine h3.mono ?_); rintro e w4 ⟨rfl, hb4⟩; have HB4 := Lib.hid hb4; clear hb4)
  go_ret
  have hB2 := HB1.out.trans (HT2.out.below HB1.out.size (Nat.le_refl _) (fun b e => by
    rcases HM.out with h | ⟨b2, h, hb⟩
    · rw [h] at e; cases e
    · rw [h] at e; injection e with e; have := HB1.out.size; omega))
  exact ⟨rfl, (hB2.trans (HB3.out.mono hB2.size)).trans (HB4.out.mono (Nat.le_trans hB2.size HB3.out.size))⟩
set_option maxRecDepth 100000 in
set_option maxHeartbeats 1000000 in
theorem qx_PutNil (p : Pt) (id : Int) (w : World) : Calls Try.prog 31 #[.pointer none, ptV p, .int .i64 id] w (RetX (.bool false) w) := by
  unfold ptV
  go_enter Try.func31, Try.ntmps31
  go_wp2_with fail
  go_ret
  exact ⟨rfl, (Below.refl _ w).alloc (Nat.le_refl _) _⟩
set_option maxRecDepth 100000 in
set_option maxHeartbeats 1000000 in
theorem qx_RemoveNil (p : Pt) (w : World) : Calls Try.prog 33 #[.pointer none, ptV p] w (RetX (.bool false) w) := by
  have hg := fun W => qx_GetNil p W
  unfold ptV at hg ⊢
  go_enter Try.func33, Try.ntmps33
  go_wp2_with ((with_reducible refine (hg _).mono ?_); rintro e w1 ⟨rfl, hb1⟩; have HB1 := Lib.hid hb1; clear hb1)
  go_ret
  exact ⟨rfl, ((Below.refl _ w).alloc (Nat.le_refl _) _).trans (HB1.out.mono (by simp))⟩
/-- points with their numbers -/
def stepP (s : (List Pt × (Pt → Int))) (p : Pt) (id : Int) : (List Pt × (Pt → Int)) := if p ∈ s.1 then s else (putL p s.1, updF s.2 p id)
def stF (qs : List QOp) : (List Pt × (Pt → Int)) := qs.foldl (fun s q => stepP s (opPt q.like q.p) q.id) ([], fun _ => 0)
theorem stF_snoc (qs : List QOp) (q : QOp) : stF (qs ++ [q]) = stepP (stF qs) (opPt q.like q.p) q.id := by simp [stF]
/-- the law's index: its box and its map lie behind the world at which the law began -/
structure IH (w w' : World) (X k : Nat) (s : (List Pt × (Pt → Int))) : Prop where
  i : ∃ m, IdxAt w' X m k s.1 s.2 ∧ ∀ b, m = some b → w.heap.size ≤ b
  x : w.heap.size ≤ X
  b : Below w.heap.size w w'
theorem IH.below {w w1 w2 : World} {X k : Nat} {s : (List Pt × (Pt → Int))} (h : IH w w1 X k s) (hb : Below w1.heap.size w1 w2) : IH w w2 X k s := by
  obtain ⟨m, h1, h2⟩ := h.i
  exact ⟨⟨m, h1.below hb, h2⟩, h.x, h.b.trans (hb.mono h.b.size)⟩
theorem IH.mono {w w1 : World} {X k k' : Nat} {s : (List Pt × (Pt → Int))} (h : IH w w1 X k s) (hk : k ≤ k') : IH w w1 X k' s := by
  obtain ⟨m, h1, h2⟩ := h.i
  exact ⟨⟨m, h1.mono hk, h2⟩, h.x, h.b⟩
def RetPutS (w : World) (X k : Nat) (s : (List Pt × (Pt → Int))) (p : Pt) (id : Int) (e : Ending) (w' : World) : Prop := e = .returned (.bool (decide (p ∉ s.1))) ∧ IH w w' X (k + 1) (stepP s p id)
theorem putStep {w w1 : World} {X k : Nat} {s : (List Pt × (Pt → Int))} (h : IH w w1 X k s) (hk : k < 100000) (p : Pt) (id : Int) (hid : (Lit.int .i64 id).wf = true) : Calls Try.prog 31 #[.pointer (some ⟨X, 0, none⟩), ptV p, .int .i64 id] w1 (RetPutS w X k s p id) := by
  obtain ⟨m, h1, h2⟩ := h.i
  refine (qx_Put h1 hk p id hid).mono ?_
  rintro e w2 (⟨hp, rfl, hb⟩ | ⟨hp, rfl, m', hm, hI, hT⟩)
  · refine ⟨by rw [decide_eq_false fun h => h hp], ?_⟩
    unfold stepP
    rw [if_pos hp]
    exact (h.below hb).mono (Nat.le_succ _)
  · have hm' : ∀ b, m' = some b → w.heap.size ≤ b := fun b e => by
      rcases hm with hm | ⟨b2, hm, hb2⟩
      · exact h2 b (by rw [← hm]; exact e)
      · rw [hm] at e; injection e with e; have := h.b.size; omega
    refine ⟨by rw [decide_eq_true hp], ?_⟩
    unfold stepP
    rw [if_neg hp]
    exact ⟨⟨m', hI, hm'⟩, h.x, h.b.trans (hT.below h.b.size h.x hm')⟩
theorem newStep {w w1 : World} (hb : Below w.heap.size w w1) : Calls Try.prog 29 #[] w1 fun e w' => e = .returned (.pointer (some ⟨w1.heap.size, 0, none⟩)) ∧ IH w w' w1.heap.size 0 ([], fun _ => 0) := by
  refine (qx_New w1).mono ?_
  rintro e w2 ⟨rfl, hb2, hI⟩
  exact ⟨rfl, ⟨⟨none, hI _, fun b e => by cases e⟩, hb.size, hb.trans (hb2.mono hb.size)⟩⟩
theorem allStep {w w1 : World} {X k : Nat} {s : (List Pt × (Pt → Int))} (h : IH w w1 X k s) (hk : k ≤ 100000) : Calls Try.prog 39 #[.pointer (some ⟨X, 0, none⟩)] w1 (RetAll s.1 s.2 w1) := by
  obtain ⟨m, h1, _⟩ := h.i
  exact qx_All h1 hk
theorem qx_len {w w1 : World} {X k : Nat} {s : (List Pt × (Pt → Int))} (h : IH w w1 X k s) : s.1.length ≤ k := by
  obtain ⟨m, h1, _⟩ := h.i
  cases m with
  | none => rw [h1.no rfl]; exact Nat.zero_le _
  | some b => exact (h1.yes b rfl).2.size_le
end Go.Proofs.Ytjdecoiciecfpaa
