/- Layer 11: the two indexes of ExactCalls side by side. -/
import Derived.Test.YtjdecoiciecfpaaQRef3
namespace Go.Proofs.Ytjdecoiciecfpaa
open Go.RowKit Go.Maps Go.Sort
/-- the program's index and the reference's -/
structure JC (w W : World) (X Y k n : Nat) (s t : List Pt × (Pt → Int)) : Prop where
  i : ∃ m, IdxAt W X m k s.1 s.2 ∧ ∀ b, m = some b → w.heap.size ≤ b
  r : ∃ A l cap, RI W Y A l cap t.1 t.2
  b : Below w.heap.size w W
  x : w.heap.size ≤ X
  y : w.heap.size ≤ Y
  l : t.1.length ≤ n
/-- blocks of cells but the two are kept -/
structure Kps (W W' : World) (X Y : Nat) : Prop where
  size : W.heap.size ≤ W'.heap.size
  block : ∀ j cs T fr, W.heap[j]? = some (.cells cs T fr) → j ≠ X → j ≠ Y → W'.heap[j]? = some (.cells cs T fr)
theorem blk_lt {W : World} {j : Nat} {o : Obj} (h : W.heap[j]? = some o) : j < W.heap.size := (Array.getElem?_eq_some_iff.1 h).1
theorem Kps.of_below {W W' : World} {X Y : Nat} (h : Below W.heap.size W W') : Kps W W' X Y := ⟨h.size, fun j _ _ _ hj _ _ => (h.block j (blk_lt hj)).trans hj⟩
theorem JC.below {w W W' : World} {X Y k n : Nat} {s t : List Pt × (Pt → Int)} (h : JC w W X Y k n s t) (hb : Below W.heap.size W W') : JC w W' X Y k n s t := by
  obtain ⟨m, h1, h2⟩ := h.i
  obtain ⟨A, l, cap, hr⟩ := h.r
  exact ⟨⟨m, h1.below hb, h2⟩, ⟨A, l, cap, hr.below hb⟩, h.b.trans (hb.mono h.b.size), h.x, h.y, h.l⟩
theorem JC.mono {w W : World} {X Y k n k' n' : Nat} {s t : List Pt × (Pt → Int)} (h : JC w W X Y k n s t) (hk : k ≤ k') (hn : n ≤ n') : JC w W X Y k' n' s t := by
  obtain ⟨m, h1, h2⟩ := h.i
  exact ⟨⟨m, h1.mono hk, h2⟩, h.r, h.b, h.x, h.y, Nat.le_trans h.l hn⟩
theorem map_cell {w : World} {b k : Nat} {pts : List Pt} {f : Pt → Int} (h : PMap w b k pts f) (o : Nat) (v : Value) : w.cell? ⟨b, o, none⟩ ≠ some v := by
  obtain ⟨D, ⟨es, clock, hb1, hF⟩, h2⟩ := h
  intro e
  simp [World.cell?, hb1] at e
theorem map_block {w : World} {b k : Nat} {pts : List Pt} {f : Pt → Int} (h : PMap w b k pts f) (cs : Array Value) (T : TypeId) (fr : Nat × Nat) : w.heap[b]? ≠ some (.cells cs T fr) := by
  obtain ⟨D, ⟨es, clock, hb1, hF⟩, h2⟩ := h
  intro e
  rw [hb1] at e
  cases e
theorem ri_ne {w : World} {X Y k l cap : Nat} {m : Option Nat} {B : Option Addr} {pts pts' : List Pt} {f f' : Pt → Int} (h : IdxAt w X m k pts f) (r : RI w Y B l cap pts' f') : X ≠ Y := fun e => by
  subst e
  have h1 := h.c
  rw [r.c] at h1
  cases h1
theorem turn_ne {W : World} {X k g : Nat} {m m' : Option Nat} {pts : List Pt} {f : Pt → Int} (h : IdxAt W X m k pts f) (hm : m' = m ∨ ∃ b, m' = some b ∧ W.heap.size ≤ b) (hg : g < W.heap.size) (hc : ¬ PMap W g k pts f) : some g ≠ m' := fun e => by
  rcases hm with hm | ⟨b, hm, hb⟩
  · rw [hm] at e
    exact hc (h.yes g e.symm).2
  · rw [hm] at e
    injection e with e
    omega
theorem RI.turns {W W' : World} {X Y l cap k : Nat} {A : Option Addr} {m m' : Option Nat} {pts pts' : List Pt} {f f' : Pt → Int} (r : RI W Y A l cap pts f) (h : IdxAt W X m k pts' f') (hm : m' = m ∨ ∃ b, m' = some b ∧ W.heap.size ≤ b) (ht : Turns W W' X m') : RI W' Y A l cap pts f := by
  have hY := ht.block Y r.lt (fun e => ri_ne h r e.symm) (turn_ne h hm r.lt fun hp => map_cell hp _ _ r.c)
  refine ⟨r.asc, r.len, r.room, Nat.lt_of_lt_of_le r.lt ht.size, by rw [World.frozen?_of_block (a := ⟨Y, 0, none⟩) hY]; exact r.froz, by rw [World.cell?_of_block (a := ⟨Y, 0, none⟩) hY]; exact r.c, r.nil, ?_⟩
  rcases r.row with e | ⟨g, e1, e2, e3⟩
  · exact .inl e
  · cases pts with
    | nil => exact .inl rfl
    | cons q rest =>
      have h0 : W.cell? ⟨g, 0, none⟩ = some (.int .u64 (hi q.a)) := by have := e3 0 q rfl 0 (by omega); rw [Nat.zero_mul] at this; exact this
      have hg := ht.block g e2 (fun e => by rw [e] at h0; have h1 := h.c; rw [h0] at h1; cases h1) (turn_ne h hm e2 fun hp => map_cell hp _ _ h0)
      exact .inr ⟨g, e1, Nat.lt_of_lt_of_le e2 ht.size, fun i p hp j hj => by rw [World.cell?_of_block (a := ⟨g, _, none⟩) hg]; exact e3 i p hp j hj⟩
theorem kps_turns {W W' : World} {X Y k : Nat} {m m' : Option Nat} {pts : List Pt} {f : Pt → Int} (h : IdxAt W X m k pts f) (hm : m' = m ∨ ∃ b, m' = some b ∧ W.heap.size ≤ b) (ht : Turns W W' X m') : Kps W W' X Y :=
  ⟨ht.size, fun j _ _ _ hj hx _ => (ht.block j (blk_lt hj) hx (turn_ne h hm (blk_lt hj) fun hp => map_block hp _ _ _ hj)).trans hj⟩
theorem kps_frX {W W' : World} {X Y : Nat} (h : FrX W W' Y) : Kps W W' X Y := ⟨h.size, fun j _ _ _ hj _ hy => (h.block j (blk_lt hj) hy).trans hj⟩
def remP (s : List Pt × (Pt → Int)) (p : Pt) : List Pt × (Pt → Int) := if p ∈ s.1 then (remL p s.1, s.2) else s
theorem putX {w W : World} {X Y k n : Nat} {s t : List Pt × (Pt → Int)} (h : JC w W X Y k n s t) (hk : k < 100000) (p : Pt) (id : Int) (hid : (Lit.int .i64 id).wf = true) : Calls Try.prog 31 #[.pointer (some ⟨X, 0, none⟩), ptV p, .int .i64 id] W fun e w' => e = .returned (.bool (decide (p ∉ s.1))) ∧ JC w w' X Y (k + 1) n (stepP s p id) t ∧ Kps W w' X Y := by
  obtain ⟨m, h1, h2⟩ := h.i
  obtain ⟨A, l, cap, hr⟩ := h.r
  refine (qx_Put h1 hk p id hid).mono ?_
  rintro e w2 (⟨hp, rfl, hb⟩ | ⟨hp, rfl, m', hm, hI, hT⟩)
  · refine ⟨by rw [decide_eq_false fun h => h hp], ?_, Kps.of_below hb⟩
    unfold stepP
    rw [if_pos hp]
    exact (h.below hb).mono (Nat.le_succ _) (Nat.le_refl _)
  · have hm' : ∀ b, m' = some b → w.heap.size ≤ b := fun b e => by
      rcases hm with hm | ⟨b2, hm, hb2⟩
      · exact h2 b (by rw [← hm]; exact e)
      · rw [hm] at e; injection e with e; have := h.b.size; omega
    refine ⟨by rw [decide_eq_true hp], ?_, kps_turns h1 hm hT⟩
    unfold stepP
    rw [if_neg hp]
    exact ⟨⟨m', hI, hm'⟩, ⟨A, l, cap, hr.turns h1 hm hT⟩, h.b.trans (hT.below h.b.size h.x hm'), h.x, h.y, h.l⟩
theorem remX {w W : World} {X Y k n : Nat} {s t : List Pt × (Pt → Int)} (h : JC w W X Y k n s t) (p : Pt) : Calls Try.prog 33 #[.pointer (some ⟨X, 0, none⟩), ptV p] W fun e w' => e = .returned (.bool (decide (p ∈ s.1))) ∧ JC w w' X Y k n (remP s p) t ∧ Kps W w' X Y := by
  obtain ⟨m, h1, h2⟩ := h.i
  obtain ⟨A, l, cap, hr⟩ := h.r
  refine (qx_Remove h1 p).mono ?_
  rintro e w2 (⟨hp, rfl, hb⟩ | ⟨hp, rfl, hI, hT⟩)
  · refine ⟨by rw [decide_eq_false hp], ?_, Kps.of_below hb⟩
    unfold remP
    rw [if_neg hp]
    exact h.below hb
  · refine ⟨by rw [decide_eq_true hp], ?_, kps_turns h1 (.inl rfl) hT⟩
    unfold remP
    rw [if_pos hp]
    exact ⟨⟨m, hI, h2⟩, ⟨A, l, cap, hr.turns h1 (.inl rfl) hT⟩, h.b.trans (hT.below h.b.size h.x h2), h.x, h.y, h.l⟩
theorem getX {w W : World} {X Y k n : Nat} {s t : List Pt × (Pt → Int)} (h : JC w W X Y k n s t) (p : Pt) : Calls Try.prog 35 #[.pointer (some ⟨X, 0, none⟩), ptV p] W (RetGet s.1 s.2 p W) := by
  obtain ⟨m, h1, _⟩ := h.i
  exact qx_Get h1 p
theorem lenX {w W : World} {X Y k n : Nat} {s t : List Pt × (Pt → Int)} (h : JC w W X Y k n s t) : Calls Try.prog 37 #[.pointer (some ⟨X, 0, none⟩)] W fun e w' => e = .returned (.int .i64 s.1.length) ∧ w' = W := by
  obtain ⟨m, h1, _⟩ := h.i
  exact qx_Len h1
theorem allX {w W : World} {X Y k n : Nat} {s t : List Pt × (Pt → Int)} (h : JC w W X Y k n s t) (hk : k ≤ 100000) : Calls Try.prog 39 #[.pointer (some ⟨X, 0, none⟩)] W fun e w' => ∃ A c, e = .returned (.slice A s.1.length c) ∧ PairsR w' A s.1 s.2 ∧ s.1.length ≤ c ∧ Below W.heap.size W w' := by
  obtain ⟨m, h1, _⟩ := h.i
  refine (qx_All h1 hk).mono ?_
  rintro e w' ⟨A, c, rfl, ho, hb⟩
  obtain ⟨h3, h4⟩ := pairsR_own ho rfl
  exact ⟨A, c, rfl, h3, h4, hb⟩
theorem JC.frX {w W W' : World} {X Y k n n' : Nat} {s t t' : List Pt × (Pt → Int)} (h : JC w W X Y k n s t) (hf : FrX W W' Y) (hr : ∃ A l cap, RI W' Y A l cap t'.1 t'.2) (hl : t'.1.length ≤ n') : JC w W' X Y k n' s t' := by
  obtain ⟨m, h1, h2⟩ := h.i
  obtain ⟨A, l, cap, r0⟩ := h.r
  exact ⟨⟨m, h1.frX hf (ri_ne h1 r0) (fun e => map_cell (h1.yes Y e).2 _ _ r0.c), h2⟩, hr, h.b.trans (hf.below h.b.size h.y), h.x, h.y, hl⟩
theorem remY {w W : World} {X Y k n : Nat} {s t : List Pt × (Pt → Int)} (h : JC w W X Y k n s t) (hn : n ≤ 100000) (p : Pt) : Calls Try.prog 34 #[.pointer (some ⟨Y, 0, none⟩), ptV p] W fun e w' => e = .returned (.bool (decide (p ∈ t.1))) ∧ JC w w' X Y k n s (remP t p) ∧ Kps W w' X Y := by
  obtain ⟨A, l, cap, r0⟩ := h.r
  have hl := h.l
  refine (qr_Remove r0 (by have := r0.len; omega) p).mono ?_
  rintro e w2 (⟨hp, rfl, hb⟩ | ⟨hp, rfl, ⟨A', cap', hR⟩, hf⟩)
  · refine ⟨by rw [decide_eq_false hp], ?_, Kps.of_below hb⟩
    unfold remP
    rw [if_neg hp]
    exact h.below hb
  · refine ⟨by rw [decide_eq_true hp], ?_, kps_frX hf⟩
    unfold remP
    rw [if_pos hp]
    exact h.frX hf ⟨A', _, cap', hR⟩ (by show (remL p t.1).length ≤ _; have := remL_len p t.1 r0.asc hp; omega)
theorem getY {w W : World} {X Y k n : Nat} {s t : List Pt × (Pt → Int)} (h : JC w W X Y k n s t) (hn : n ≤ 100000) (p : Pt) : Calls Try.prog 36 #[.pointer (some ⟨Y, 0, none⟩), ptV p] W (RetGet t.1 t.2 p W) := by
  obtain ⟨A, l, cap, r0⟩ := h.r
  have hl := h.l
  exact qr_Get r0 (by have := r0.len; omega) p
end Go.Proofs.Ytjdecoiciecfpaa
