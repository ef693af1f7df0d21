/- Layer 11: what ExactOrder shares: calls kept, an index beside another one. -/
import Derived.Test.YtjdecoiciecfpaaQLaw
namespace Go.Proofs.Ytjdecoiciecfpaa
open Go.RowKit Go.Maps Go.Sort
def QOp.pt (q : QOp) : Pt := opPt q.like q.p
/-- just these calls' points are there, with their numbers -/
structure Kp (s : List Pt × (Pt → Int)) (l : List QOp) : Prop where
  asc : Asc s.1
  mem : ∀ p, p ∈ s.1 ↔ ∃ q ∈ l, q.pt = p
  nd : (l.map QOp.pt).Nodup
  num : ∀ q ∈ l, s.2 q.pt = q.id
theorem Kp.nil (f : Pt → Int) : Kp ([], f) [] := ⟨List.Pairwise.nil, fun p => by simp, List.nodup_nil, fun q h => by cases h⟩
theorem Kp.perm {s : List Pt × (Pt → Int)} {l l' : List QOp} (h : Kp s l) (hp : l.Perm l') : Kp s l' :=
  ⟨h.asc, fun p => by rw [h.mem p]; constructor <;> rintro ⟨q, h1, h2⟩ <;> exact ⟨q, (by first | exact hp.mem_iff.1 h1 | exact hp.mem_iff.2 h1), h2⟩, (hp.map _).nodup_iff.1 h.nd, fun q hq => h.num q (hp.mem_iff.2 hq)⟩
theorem Kp.cons {s : List Pt × (Pt → Int)} {l : List QOp} (h : Kp s l) (q : QOp) (hq : q.pt ∉ s.1) : Kp (stepP s q.pt q.id) (q :: l) := by
  unfold stepP
  rw [if_neg hq]
  refine ⟨putL_asc _ _ h.asc hq, fun p => ?_, ?_, fun q' hq' => ?_⟩
  · rw [putL_mem, h.mem p]
    constructor
    · rintro (h1 | ⟨q', h1, h2⟩)
      · exact ⟨q, List.mem_cons_self, h1.symm⟩
      · exact ⟨q', List.mem_cons_of_mem _ h1, h2⟩
    · rintro ⟨q', h1, h2⟩
      rcases List.mem_cons.1 h1 with e | h1
      · subst e; exact .inl h2.symm
      · exact .inr ⟨q', h1, h2⟩
  · rw [List.map_cons, List.nodup_cons]
    refine ⟨fun hm => ?_, h.nd⟩
    obtain ⟨q', h1, h2⟩ := List.mem_map.1 hm
    exact hq ((h.mem _).2 ⟨q', h1, h2⟩)
  · show updF s.2 q.pt q.id q'.pt = q'.id
    rcases List.mem_cons.1 hq' with e | h1
    · subst e; rw [updF, if_pos rfl]
    · rw [updF, if_neg fun e => hq ((h.mem _).2 ⟨q', h1, e⟩)]
      exact h.num q' h1
theorem Kp.snoc {s : List Pt × (Pt → Int)} {l : List QOp} (h : Kp s l) (q : QOp) (hq : q.pt ∉ s.1) : Kp (stepP s q.pt q.id) (l ++ [q]) := (h.cons q hq).perm (List.perm_append_singleton q l).symm
theorem Kp.head {s : List Pt × (Pt → Int)} {l : List QOp} {q : QOp} (h : Kp s (q :: l)) : q.pt ∈ s.1 := (h.mem _).2 ⟨q, List.mem_cons_self, rfl⟩
theorem Kp.tail {s : List Pt × (Pt → Int)} {l : List QOp} {q : QOp} (h : Kp s (q :: l)) : Kp (remL q.pt s.1, s.2) l := by
  have hn := List.nodup_cons.1 (by simpa using h.nd : (q.pt :: l.map QOp.pt).Nodup)
  refine ⟨remL_asc _ _ h.asc, fun p => ?_, hn.2, fun q' hq' => h.num q' (List.mem_cons_of_mem _ hq')⟩
  rw [remL_mem _ _ _ h.asc h.head, h.mem p]
  constructor
  · rintro ⟨⟨q', h1, h2⟩, h3⟩
    rcases List.mem_cons.1 h1 with e | h1
    · subst e; exact absurd h2.symm h3
    · exact ⟨q', h1, h2⟩
  · rintro ⟨q', h1, h2⟩
    exact ⟨⟨q', List.mem_cons_of_mem _ h1, h2⟩, fun e => hn.1 (by rw [← e, ← h2]; exact List.mem_map_of_mem h1)⟩
theorem Kp.len {s : List Pt × (Pt → Int)} {l : List QOp} (h : Kp s l) : s.1.length = l.length := by
  have hp : s.1.Perm (l.map QOp.pt) := (List.perm_ext_iff_of_nodup h.asc.nodup h.nd).2 fun p => by
    rw [h.mem p, List.mem_map]
  rw [hp.length_eq, List.length_map]
theorem Kp.empty {s : List Pt × (Pt → Int)} (h : Kp s []) : s.1 = [] := List.length_eq_zero_iff.1 h.len
theorem Kp.same {s t : List Pt × (Pt → Int)} {l : List QOp} (h : Kp s l) (k : Kp t l) : s.1 = t.1 ∧ rowP s.2 s.1 = rowP t.2 t.1 := by
  have e : s.1 = t.1 := asc_ext h.asc k.asc fun q => by rw [h.mem q, k.mem q]
  refine ⟨e, ?_⟩
  rw [← e]
  have hf : ∀ p ∈ s.1, encP s.2 p = encP t.2 p := fun p hp => by
    obtain ⟨q, h1, h2⟩ := (h.mem p).1 hp
    unfold encP
    rw [← h2, h.num q h1, k.num q h1]
  generalize s.1 = L at hf
  induction L with
  | nil => rfl
  | cons x r ih =>
    show encP s.2 x ++ rowP s.2 r = encP t.2 x ++ rowP t.2 r
    rw [hf x List.mem_cons_self, ih fun p hp => hf p (List.mem_cons_of_mem _ hp)]
/-- nothing but block X, and new blocks -/
structure FrX (W0 W : World) (X : Nat) : Prop where
  os : W.os = W0.os
  tape : W.tape = W0.tape
  output : W.output = W0.output
  size : W0.heap.size ≤ W.heap.size
  block : ∀ j, j < W0.heap.size → j ≠ X → W.heap[j]? = W0.heap[j]?
theorem FrX.refl (W : World) (X : Nat) : FrX W W X := ⟨rfl, rfl, rfl, Nat.le_refl _, fun _ _ _ => rfl⟩
theorem FrX.below {W0 W : World} {X B : Nat} (h : FrX W0 W X) (hB : B ≤ W0.heap.size) (hX : B ≤ X) : Below B W0 W := ⟨h.os, h.tape, h.output, h.size, fun j hj => h.block j (by omega) (by omega)⟩
theorem FrX.then {W0 W W' : World} {X : Nat} (h : FrX W0 W X) (hb : Below W.heap.size W W') : FrX W0 W' X := ⟨hb.os.trans h.os, hb.tape.trans h.tape, hb.output.trans h.output, Nat.le_trans h.size hb.size, fun j hj hx => (hb.block j (Nat.lt_of_lt_of_le hj h.size)).trans (h.block j hj hx)⟩
theorem FrX.grown {W0 W W' : World} {X : Nat} {row : Option Nat} (h : FrX W0 W X) (hg : W.grownBy W' row) (hr : ∀ g, row = some g → W0.heap.size ≤ g) : FrX W0 W' X :=
  ⟨hg.os.trans h.os, hg.tape.trans h.tape, hg.output.trans h.output, Nat.le_trans h.size hg.size, fun j hj hx => (hg.block j (Nat.lt_of_lt_of_le hj h.size) (fun e => by have := hr j e.symm; omega)).trans (h.block j hj hx)⟩
theorem FrX.turn {W0 W W' : World} {X : Nat} {m : Option Nat} (h : FrX W0 W X) (ht : Turns W W' X m) (hm : ∀ b, m = some b → W0.heap.size ≤ b) : FrX W0 W' X :=
  ⟨ht.os.trans h.os, ht.tape.trans h.tape, ht.output.trans h.output, Nat.le_trans h.size ht.size, fun j hj hx => (ht.block j (Nat.lt_of_lt_of_le hj h.size) hx (fun e => by have := hm j e.symm; omega)).trans (h.block j hj hx)⟩
/-- an index whose map lies behind W0 -/
structure JH (W0 W : World) (X : Nat) (m : Option Nat) (k : Nat) (s : List Pt × (Pt → Int)) : Prop where
  i : IdxAt W X m k s.1 s.2
  m : ∀ b, m = some b → W0.heap.size ≤ b
  f : FrX W0 W X
theorem JH.below {W0 W W' : World} {X k : Nat} {m : Option Nat} {s : List Pt × (Pt → Int)} (h : JH W0 W X m k s) (hb : Below W.heap.size W W') : JH W0 W' X m k s := ⟨h.i.below hb, h.m, h.f.then hb⟩
theorem JH.mono {W0 W : World} {X k k' : Nat} {m : Option Nat} {s : List Pt × (Pt → Int)} (h : JH W0 W X m k s) (hk : k ≤ k') : JH W0 W X m k' s := ⟨h.i.mono hk, h.m, h.f⟩
theorem JH.grown {W0 W W' : World} {X k : Nat} {m row : Option Nat} {s : List Pt × (Pt → Int)} (h : JH W0 W X m k s) (hg : W.grownBy W' row) (hX : X < W0.heap.size) (hr : ∀ g, row = some g → W0.heap.size ≤ g ∧ m ≠ some g) : JH W0 W' X m k s :=
  ⟨h.i.aside hg.size fun j hj => hg.block j (by
      rcases hj with e | e
      · rw [e]; exact h.i.lt
      · exact (h.i.yes j e).2.lt) (fun e => by
      have h1 := hr j e.symm
      rcases hj with e2 | e2
      · omega
      · exact h1.2 e2), h.m, h.f.grown hg fun g e => (hr g e).1⟩
def RetPutJ (W0 W : World) (X k : Nat) (m : Option Nat) (s : List Pt × (Pt → Int)) (p : Pt) (id : Int) (e : Ending) (w' : World) : Prop := e = .returned (.bool (decide (p ∉ s.1))) ∧ ∃ m', (m' = m ∨ ∃ b, m' = some b ∧ W.heap.size ≤ b) ∧ JH W0 w' X m' (k + 1) (stepP s p id) ∧ Turns W w' X m'
theorem putJ {W0 W : World} {X k : Nat} {m : Option Nat} {s : List Pt × (Pt → Int)} (h : JH W0 W X m k s) (hk : k < 100000) (p : Pt) (id : Int) (hid : (Lit.int .i64 id).wf = true) : Calls Try.prog 31 #[.pointer (some ⟨X, 0, none⟩), ptV p, .int .i64 id] W (RetPutJ W0 W X k m s p id) := by
  refine (qx_Put h.i hk p id hid).mono ?_
  rintro e w2 (⟨hp, rfl, hb⟩ | ⟨hp, rfl, m', hm, hI, hT⟩)
  · refine ⟨by rw [decide_eq_false fun h => h hp], m, .inl rfl, ?_, Turns.of_below hb⟩
    unfold stepP
    rw [if_pos hp]
    exact (h.below hb).mono (Nat.le_succ _)
  · have hm' : ∀ b, m' = some b → W0.heap.size ≤ b := fun b e => by
      rcases hm with hm | ⟨b2, hm, hb2⟩
      · exact h.m b (by rw [← hm]; exact e)
      · rw [hm] at e; injection e with e; have := h.f.size; omega
    refine ⟨by rw [decide_eq_true hp], m', hm, ?_, hT⟩
    unfold stepP
    rw [if_neg hp]
    exact ⟨hI, hm', h.f.turn hT hm'⟩
theorem remJ {W0 W : World} {X k : Nat} {m : Option Nat} {s : List Pt × (Pt → Int)} (h : JH W0 W X m k s) (p : Pt) (hp : p ∈ s.1) : Calls Try.prog 33 #[.pointer (some ⟨X, 0, none⟩), ptV p] W fun e w' => e = .returned (.bool true) ∧ JH W0 w' X m k (remL p s.1, s.2) ∧ Turns W w' X m := by
  refine (qx_Remove h.i p).mono ?_
  rintro e w2 (⟨hp2, _⟩ | ⟨_, rfl, hI, hT⟩)
  · exact absurd hp hp2
  · exact ⟨rfl, ⟨hI, h.m, h.f.turn hT h.m⟩, hT⟩
/-- rows of calls of one's own -/
def rowO (l : List QOp) : List Value := l.flatMap QOp.cells
theorem rowO_snoc (l : List QOp) (q : QOp) : rowO (l ++ [q]) = rowO l ++ q.cells := by simp [rowO]
theorem rowO_get : ∀ (l : List QOp) (i j : Nat) (q : QOp), l[i]? = some q → j < 11 → (rowO l)[i * 11 + j]? = q.cells[j]?
  | [], i, j, p, h, _ => by simp at h
  | x :: r, i, j, p, h, hj => by
    show (x.cells ++ rowO r)[i * 11 + j]? = _
    cases i with
    | zero =>
      simp at h; subst h
      rw [List.getElem?_append_left (by show _ < 11; omega)]; simp
    | succ i =>
      rw [List.getElem?_append_right (by show 11 ≤ _; omega), show x.cells.length = 11 from rfl, show (i + 1) * 11 + j - 11 = i * 11 + j by omega]
      exact rowO_get r i j p (by simpa using h) hj
theorem QOp.cells_one (q : QOp) : ∀ v ∈ q.cells, v.oneCell' = true := fun v hv => by
  simp only [QOp.cells, List.mem_cons, List.not_mem_nil, or_false] at hv
  rcases hv with h | h | h | h | h | h | h | h | h | h | h <;> rw [h] <;> rfl
theorem opsR_own {w : World} {base : Nat} {e : TypeId} {A : Option Addr} {cap n : Nat} {l : List QOp} (h : w.ownsRow base e 11 (.slice A n cap) n (rowO l)) (hn : l.length = n) : OpsR w A l ∧ n ≤ cap := by
  rcases h.2 with ⟨e0, e1⟩ | ⟨g, cap', cur, e0, hb, hg, hc, _⟩
  · exact ⟨.inl (List.length_eq_zero_iff.1 (by omega)), by omega⟩
  · injection e0 with e1 _ e3
    subst e1; subst e3
    refine ⟨.inr ⟨g, 0, rfl, (Array.getElem?_eq_some_iff.1 hg).1, fun i q hq j hj => ?_⟩, hc⟩
    have hi : i < l.length := (List.getElem?_eq_some_iff.1 hq).1
    rw [Nat.zero_add, World.ownsRow.cellAt h (i * 11 + j) (by omega), rowO_get l i j q hq hj]
set_option maxRecDepth 100000 in
theorem info_opQ : (Try.prog.info? 73).map (fun i => (i.zero, i.size, i.bytes)) = some (some (.agg #[.int .i64 0, .int .u8 0, .int .u64 0, .int .u64 0, .int .u64 0, .int .u64 0, .int .u64 0, .int .u64 0, .int .u64 0, .int .u64 0, .int .i64 0]), 11, 88) := by kernel_rfl
theorem putJ_old {W0 W : World} {X k : Nat} {m : Option Nat} {s : List Pt × (Pt → Int)} (h : JH W0 W X m k s) (hk : k < 100000) (p : Pt) (id : Int) (hid : (Lit.int .i64 id).wf = true) (hp : p ∈ s.1) : Calls Try.prog 31 #[.pointer (some ⟨X, 0, none⟩), ptV p, .int .i64 id] W fun e w' => e = .returned (.bool false) ∧ JH W0 w' X m (k + 1) s ∧ Below W.heap.size W w' := by
  refine (qx_Put h.i hk p id hid).mono ?_
  rintro e w2 (⟨_, rfl, hb⟩ | ⟨hp2, _⟩)
  · exact ⟨rfl, (h.below hb).mono (Nat.le_succ _), hb⟩
  · exact absurd hp hp2
theorem putJ_new {W0 W : World} {X k : Nat} {m : Option Nat} {s : List Pt × (Pt → Int)} (h : JH W0 W X m k s) (hk : k < 100000) (p : Pt) (id : Int) (hid : (Lit.int .i64 id).wf = true) (hp : p ∉ s.1) : Calls Try.prog 31 #[.pointer (some ⟨X, 0, none⟩), ptV p, .int .i64 id] W fun e w' => e = .returned (.bool true) ∧ ∃ m', (m' = m ∨ ∃ b, m' = some b ∧ W.heap.size ≤ b) ∧ JH W0 w' X m' (k + 1) (stepP s p id) ∧ Turns W w' X m' := by
  refine (putJ h hk p id hid).mono ?_
  rintro e w2 ⟨rfl, h2⟩
  exact ⟨by rw [decide_eq_true hp], h2⟩
/-- what a turn leaves alone: a block that was there, neither the box nor the map -/
theorem Turns.keep {W W' : World} {X g : Nat} {m m' : Option Nat} (h : Turns W W' X m') (hm : m' = m ∨ ∃ b, m' = some b ∧ W.heap.size ≤ b) (hg : g < W.heap.size) (hx : g ≠ X) (hn : m ≠ some g) : W'.heap[g]? = W.heap[g]? :=
  h.block g hg hx fun e => by
    rcases hm with hm | ⟨b, hm, hb⟩
    · exact hn (by rw [← hm, e])
    · rw [hm] at e; injection e with e; omega
theorem keep_ne {W : World} {g : Nat} {m m' : Option Nat} (hm : m' = m ∨ ∃ b, m' = some b ∧ W.heap.size ≤ b) (hg : g < W.heap.size) (hn : m ≠ some g) : m' ≠ some g := fun e => by
  rcases hm with hm | ⟨b, hm, hb⟩
  · exact hn (by rw [← hm, e])
  · rw [hm] at e; injection e with e; omega
theorem own_turn {W W' : World} {X base n sz : Nat} {m m' : Option Nat} {e : TypeId} {v : Value} {xs : List Value} (h : W.ownsRow base e sz v n xs) (ht : Turns W W' X m') (hm : m' = m ∨ ∃ b, m' = some b ∧ W.heap.size ≤ b) (hX : X < base) (hn : ∀ g, v.ownBlock = some g → m ≠ some g) : W'.ownsRow base e sz v n xs := by
  refine ⟨h.1, ?_⟩
  rcases h.2 with h0 | ⟨g, cap, cur, rfl, hb, hg, rest⟩
  · exact .inl h0
  · exact .inr ⟨g, cap, cur, rfl, hb, (ht.keep hm (Array.getElem?_eq_some_iff.1 hg).1 (by omega) (hn g rfl)).trans hg, rest⟩
theorem own_below {W W' : World} {base n sz : Nat} {e : TypeId} {v : Value} {xs : List Value} (h : W.ownsRow base e sz v n xs) (hb : Below W.heap.size W W') : W'.ownsRow base e sz v n xs := by
  refine ⟨h.1, ?_⟩
  rcases h.2 with h0 | ⟨g, cap, cur, rfl, h1, hg, rest⟩
  · exact .inl h0
  · exact .inr ⟨g, cap, cur, rfl, h1, (hb.block g (Array.getElem?_eq_some_iff.1 hg).1).trans hg, rest⟩
/-- what is left alone by all but block X and new blocks -/
theorem own_frX {W0 W : World} {X base n sz : Nat} {e : TypeId} {v : Value} {xs : List Value} (h : W0.ownsRow base e sz v n xs) (hf : FrX W0 W X) (hX : v.ownBlock ≠ some X) : W.ownsRow base e sz v n xs := by
  refine ⟨h.1, ?_⟩
  rcases h.2 with h0 | ⟨g, cap, cur, rfl, h1, hg, rest⟩
  · exact .inl h0
  · exact .inr ⟨g, cap, cur, rfl, h1, (hf.block g (Array.getElem?_eq_some_iff.1 hg).1 (fun e => hX (by rw [← e]; rfl))).trans hg, rest⟩
theorem IdxAt.frX {W0 W : World} {X Y k : Nat} {m : Option Nat} {pts : List Pt} {f : Pt → Int} (h : IdxAt W0 Y m k pts f) (hf : FrX W0 W X) (h1 : Y ≠ X) (h2 : m ≠ some X) : IdxAt W Y m k pts f :=
  h.aside hf.size fun j hj => hf.block j (by
    rcases hj with e | e
    · rw [e]; exact h.lt
    · exact (h.yes j e).2.lt) (fun e => by
    rcases hj with e2 | e2
    · exact h1 (by rw [← e2, e])
    · exact h2 (by rw [← e, e2]))
theorem Kp.fresh {s t : List Pt × (Pt → Int)} {l : List QOp} {j : Nat} {q : QOp} (h : Kp s l) (k : Kp t (l.drop (j + 1))) (hq : l[j]? = some q) : q.pt ∉ t.1 := fun hm => by
  obtain ⟨q', h1, h2⟩ := (k.mem _).1 hm
  obtain ⟨hj, e⟩ := List.getElem?_eq_some_iff.1 hq
  have e1 : l.drop j = q :: l.drop (j + 1) := by rw [List.drop_eq_getElem_cons hj, e]
  have hn : ((l.drop j).map QOp.pt).Nodup := List.Sublist.nodup ((List.drop_sublist j l).map _) h.nd
  rw [e1, List.map_cons, List.nodup_cons] at hn
  exact hn.1 (List.mem_map.2 ⟨q', h1, h2⟩)
theorem drop_at {l : List QOp} {j : Nat} {q : QOp} (hq : l[j]? = some q) : l.drop j = q :: l.drop (j + 1) := by
  obtain ⟨hj, e⟩ := List.getElem?_eq_some_iff.1 hq
  rw [List.drop_eq_getElem_cons hj, e]
/-- a row of pairs that can be read -/
def PairsR (w : World) (A : Option Addr) (l : List Pt) (f : Pt → Int) : Prop := l = [] ∨ ∃ g, A = some ⟨g, 0, none⟩ ∧ g < w.heap.size ∧ ∀ i p, l[i]? = some p → ∀ j, j < 9 → w.cell? ⟨g, i * 9 + j, none⟩ = (encP f p)[j]?
theorem PairsR.below {w w' : World} {A : Option Addr} {l : List Pt} {f : Pt → Int} (h : PairsR w A l f) (hb : Below w.heap.size w w') : PairsR w' A l f := by
  rcases h with h | ⟨g, h1, h2, h3⟩
  · exact .inl h
  · exact .inr ⟨g, h1, Nat.lt_of_lt_of_le h2 hb.size, fun i p hp j hj => by rw [hb.cell (p := ⟨g, _, none⟩) h2]; exact h3 i p hp j hj⟩
theorem pairsR_own {w : World} {base n : Nat} {e : TypeId} {A : Option Addr} {cap : Nat} {f : Pt → Int} {pts : List Pt} (h : w.ownsRow base e 9 (.slice A n cap) n (rowP f pts)) (hn : pts.length = n) : PairsR w A pts f ∧ n ≤ cap := by
  rcases h.2 with ⟨e0, e1⟩ | ⟨g, cap', cur, e0, hb, hg, hc, _⟩
  · exact ⟨.inl (List.length_eq_zero_iff.1 (by omega)), by omega⟩
  · injection e0 with e1 _ e3
    subst e1; subst e3
    refine ⟨.inr ⟨g, rfl, (Array.getElem?_eq_some_iff.1 hg).1, fun i p hp j hj => ?_⟩, hc⟩
    have hi : i < pts.length := (List.getElem?_eq_some_iff.1 hp).1
    rw [World.ownsRow.cellAt h (i * 9 + j) (by omega), rowP_get f pts i j p hp hj]
theorem allJ {W : World} {X k n : Nat} {m : Option Nat} {s : List Pt × (Pt → Int)} {l : List QOp} (h : IdxAt W X m k s.1 s.2) (hk : k ≤ 100000) (hK : Kp s l) (hn : l.length = n) : Calls Try.prog 39 #[.pointer (some ⟨X, 0, none⟩)] W fun e w' => ∃ A c, e = .returned (.slice A n c) ∧ PairsR w' A s.1 s.2 ∧ n ≤ c ∧ Below W.heap.size W w' := by
  refine (qx_All h hk).mono ?_
  rintro e w' ⟨A, c, rfl, ho, hb⟩
  rw [hK.len, hn] at ho ⊢
  obtain ⟨h1, h2⟩ := pairsR_own ho (hK.len.trans hn)
  exact ⟨A, c, rfl, h1, h2, hb⟩
theorem Kp.sameF {s t : List Pt × (Pt → Int)} {l : List QOp} (h : Kp s l) (k : Kp t l) : s.1 = t.1 ∧ ∀ p ∈ s.1, s.2 p = t.2 p :=
  ⟨asc_ext h.asc k.asc fun q => by rw [h.mem q, k.mem q], fun p hp => by
    obtain ⟨q, h1, h2⟩ := (h.mem p).1 hp
    rw [← h2, h.num q h1, k.num q h1]⟩
end Go.Proofs.Ytjdecoiciecfpaa
