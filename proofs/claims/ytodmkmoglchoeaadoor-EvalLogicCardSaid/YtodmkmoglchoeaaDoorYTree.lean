/- Layer 7, pure: what the parser makes is a tree, its nodes behind those of its parts. -/
import Derived.Test.YtodmkmoglchoeaaDoorYCtx
namespace Go.Proofs.YtodmkmoglchoeaaDoor
open Go.RowKit

inductive Tr where
  | leaf (n : Nd)
  | un (o : Nat) (t : Tr)
  | bin (o : Nat) (t u : Tr)
def Tr.size : Tr → Nat
  | .leaf _ => 1
  | .un _ t => t.size + 1
  | .bin _ t u => t.size + u.size + 1
theorem Tr.pos (t : Tr) : 1 ≤ t.size := by cases t <;> simp [Tr.size]
/-- the nodes of a tree behind b others -/
def Tr.flat : Tr → Nat → List Nd
  | .leaf n, _ => [n]
  | .un o t, b => t.flat b ++ [nd o (b + t.size - 1) 0]
  | .bin o t u, b => t.flat b ++ u.flat (b + t.size) ++ [nd o (b + t.size - 1) (b + t.size + u.size - 1)]
theorem Tr.flat_len (t : Tr) : ∀ b, (t.flat b).length = t.size := by
  induction t with
  | leaf n => intro b; rfl
  | un o t ih => intro b; simp [Tr.flat, Tr.size, ih]
  | bin o t u ih1 ih2 => intro b; simp [Tr.flat, Tr.size, ih1, ih2]; omega
/-- a leaf -/
structure LeafOk (n : Nd) : Prop where
  a : n.a = 0
  b : n.b = 0
  is : (n.op = 1 ∧ n.name = ⟨#[]⟩ ∧ n.attr = ⟨#[]⟩ ∧ n.val < 340282366920938463463374607431768211456) ∨ (n.op = 2 ∧ n.name = ⟨#[]⟩ ∧ n.attr = ⟨#[]⟩ ∧ n.val ≤ 1) ∨ (n.op = 3 ∧ n.val = 0 ∧ kindN n.name = 2 ∧ n.name ≠ syTrue ∧ n.name ≠ syFalse ∧ (n.attr = ⟨#[]⟩ ∨ kindN n.attr = 2) ∧ (∀ i, i < n.name.size → isWd (bt n.name i) = true) ∧ (∀ i, i < n.attr.size → isWd (bt n.attr i) = true))
theorem LeafOk.op {n : Nd} (h : LeafOk n) : 1 ≤ n.op ∧ n.op ≤ 3 := by rcases h.is with ⟨e, _⟩ | ⟨e, _⟩ | ⟨e, _⟩ <;> omega
def Tr.Ok : Tr → Prop
  | .leaf n => LeafOk n
  | .un o t => (o = 4 ∨ o = 5) ∧ t.Ok
  | .bin o t u => 6 ≤ o ∧ o ≤ 16 ∧ t.Ok ∧ u.Ok
/-- tokens as Scan returns them -/
structure TokGood (l : List Tok) : Prop where
  lit : ∀ t ∈ l, t.kind = 1 → (litV t.text).isSome = true
  nam : ∀ t ∈ l, t.kind = 2 → kindN t.text = 2
  wd : ∀ t ∈ l, t.kind = 2 → ∀ i, i < t.text.size → isWd (bt t.text i) = true
def TreeAt (pre : List Nd) (r : Nat × PS) : Prop := ∃ t : Tr, t.Ok ∧ r.2.out = pre ++ t.flat pre.length ∧ r.1 + 1 = pre.length + t.size
def treeIn : Ru → List Nd → List Nd → Prop
  | .grpL _ a, pre, out => ∃ t : Tr, t.Ok ∧ out = pre ++ t.flat pre.length ∧ a + 1 = pre.length + t.size
  | _, pre, out => out = pre
theorem tree_leaf {pre : List Nd} {p : PS} {n : Nd} (h : LeafOk n) (he : p.out = pre) : TreeAt pre (p.nod n) :=
  ⟨.leaf n, h, by show p.out ++ [n] = _; rw [he]; rfl, by show p.out.length + 1 = _; rw [he]; rfl⟩
theorem tree_un {pre : List Nd} {q : Nat × PS} {o : Nat} (h : TreeAt pre q) (ho : o = 4 ∨ o = 5) : TreeAt pre (q.2.nod (nd o q.1 0)) := by
  obtain ⟨t, h1, h2, h3⟩ := h
  have := t.pos
  refine ⟨.un o t, ⟨ho, h1⟩, ?_, ?_⟩
  · show q.2.out ++ [_] = _
    rw [h2, Tr.flat, List.append_assoc, show q.1 = pre.length + t.size - 1 by omega]
  · show q.2.out.length + 1 = _
    rw [h2, List.length_append, t.flat_len]; simp [Tr.size]; omega
theorem tree_bin {pre : List Nd} {x y : Nat × PS} {o : Nat} (h : TreeAt pre x) (k : TreeAt x.2.out y) (h6 : 6 ≤ o) (h16 : o ≤ 16) : TreeAt pre (y.2.nod (nd o x.1 y.1)) := by
  obtain ⟨t, h1, h2, h3⟩ := h
  obtain ⟨u, k1, k2, k3⟩ := k
  have := t.pos
  have := u.pos
  have hl : x.2.out.length = pre.length + t.size := by rw [h2, List.length_append, t.flat_len]
  rw [hl] at k2 k3
  refine ⟨.bin o t u, ⟨h6, h16, h1, k1⟩, ?_, ?_⟩
  · show y.2.out ++ [_] = _
    rw [k2, h2, Tr.flat, show x.1 = pre.length + t.size - 1 by omega, show y.1 = pre.length + t.size + u.size - 1 by omega, List.append_assoc, List.append_assoc, List.append_assoc]
  · show y.2.out.length + 1 = _
    rw [k2, h2, List.length_append, List.length_append, t.flat_len, u.flat_len]; simp [Tr.size]; omega
theorem gops_rng (k o : Nat) (h : o ∈ gops k) : 6 ≤ o ∧ o ≤ 16 := by
  rcases k with _ | _ | k <;> simp [gops] at h <;> omega
theorem pVar_tree {l : List Tok} {x : ByteArray} {p : PS} (hT : TokGood l) (hx : kindN x = 2) (hxw : ∀ i, i < x.size → isWd (bt x i) = true) (h1 : x ≠ syTrue) (h2 : x ≠ syFalse) (hb : (pVar l x p).2.bad = false) : TreeAt p.out (pVar l x p) := by
  unfold pVar at hb ⊢
  by_cases hs : see l p syOf = true
  · rw [if_pos hs] at hb ⊢
    cases hu : l[p.at_ + 1]? with
    | none => rw [hu] at hb; cases hb
    | some u =>
      rw [hu] at hb
      by_cases hk : u.kind = 2
      · simp only [hk, if_true]
        exact tree_leaf (p := p.adv.adv) ⟨rfl, rfl, .inr (.inr ⟨rfl, rfl, hx, h1, h2, .inr (hT.nam u (List.mem_of_getElem? hu) hk), hxw, hT.wd u (List.mem_of_getElem? hu) hk⟩)⟩ rfl
      · simp only [hk, if_false] at hb
        cases hb
  · rw [if_neg hs]
    exact tree_leaf ⟨rfl, rfl, .inr (.inr ⟨rfl, rfl, hx, h1, h2, .inl rfl, hxw, fun i hi => absurd hi (Nat.not_lt_zero i)⟩)⟩ rfl
theorem pR_tree {l : List Tok} (hT : TokGood l) : ∀ (n : Nat) (R : Ru) (p : PS) (r : Nat × PS) (pre : List Nd), pR l n R p = some r → r.2.bad = false → treeIn R pre p.out → TreeAt pre r := by
  intro n
  induction n with
  | zero => intro R p r pre h; cases h
  | succ n ih =>
    intro R p r pre h hb hp
    cases R with
    | imp =>
      rw [pR] at h
      obtain ⟨x, hx, h2⟩ := Option.bind_eq_some_iff.1 h
      by_cases ho : opAt l x.2 [16] = 0
      · rw [if_pos ho] at h2; injection h2 with h2; subst h2
        exact ih _ _ _ _ hx hb hp
      · rw [if_neg ho] at h2
        obtain ⟨y, hy, h3⟩ := Option.bind_eq_some_iff.1 h2
        injection h3 with h3; subst h3
        exact tree_bin (ih _ _ _ _ hx (see_lt (opAt_see ho)).2 hp) (ih _ _ _ _ hy hb rfl) (by decide) (by decide)
    | grp k =>
      rw [pR] at h
      obtain ⟨x, hx, h2⟩ := Option.bind_eq_some_iff.1 h
      have t1 := ih _ _ _ pre hx (bad_back (pR_went l _ _ _ _ h2) hb) (by rcases k with _ | _ | k <;> exact hp)
      obtain ⟨t, a1, a2, a3⟩ := t1
      exact ih _ _ _ pre h2 hb ⟨t, a1, a2, a3⟩
    | grpL k a =>
      rw [pR] at h
      obtain ⟨t, a1, a2, a3⟩ := hp
      by_cases ho : opAt l p (gops k) = 0
      · rw [if_pos ho] at h; injection h with h; subst h; exact ⟨t, a1, a2, a3⟩
      · rw [if_neg ho] at h
        obtain ⟨y, hy, h3⟩ := Option.bind_eq_some_iff.1 h
        have b2 : y.2.bad = false := (show (y.2.nod (nd (opAt l p (gops k)) a y.1)).2.bad = false from bad_back (pR_went l _ _ _ _ h3) hb)
        have t2 := ih _ _ _ p.out hy b2 (by rcases k with _ | _ | k <;> rfl)
        have hr := gops_rng k _ (opAt_mem ho)
        have t3 : TreeAt pre (y.2.nod (nd (opAt l p (gops k)) a y.1)) := tree_bin (x := (a, p)) ⟨t, a1, a2, a3⟩ t2 hr.1 hr.2
        obtain ⟨v, c1, c2, c3⟩ := t3
        exact ih _ _ _ pre h3 hb ⟨v, c1, c2, c3⟩
    | not =>
      rw [pR] at h
      by_cases ho : opAt l p [5] = 0
      · rw [if_pos ho] at h; exact ih _ _ _ _ h hb hp
      · rw [if_neg ho] at h
        obtain ⟨y, hy, h3⟩ := Option.bind_eq_some_iff.1 h
        injection h3 with h3; subst h3
        exact tree_un (ih _ _ _ _ hy hb hp) (.inr rfl)
    | cmp =>
      rw [pR] at h
      obtain ⟨x, hx, h2⟩ := Option.bind_eq_some_iff.1 h
      by_cases ho : opAt l x.2 [8, 9, 10, 11, 12, 13] = 0
      · rw [if_pos ho] at h2; injection h2 with h2; subst h2
        exact ih _ _ _ _ hx hb hp
      · rw [if_neg ho] at h2
        obtain ⟨y, hy, h3⟩ := Option.bind_eq_some_iff.1 h2
        injection h3 with h3; subst h3
        have hm := opAt_mem ho
        have hr : 6 ≤ opAt l x.2 [8, 9, 10, 11, 12, 13] ∧ opAt l x.2 [8, 9, 10, 11, 12, 13] ≤ 16 := by
          simp only [List.mem_cons, List.not_mem_nil, or_false] at hm; omega
        exact tree_bin (ih _ _ _ _ hx (see_lt (opAt_see ho)).2 hp) (ih _ _ _ _ hy hb rfl) hr.1 hr.2
    | una =>
      rw [pR] at h
      by_cases ho : opAt l p [4] = 0
      · rw [if_pos ho] at h; exact ih _ _ _ _ h hb hp
      · rw [if_neg ho] at h
        obtain ⟨y, hy, h3⟩ := Option.bind_eq_some_iff.1 h
        injection h3 with h3; subst h3
        exact tree_un (ih _ _ _ _ hy hb hp) (.inl rfl)
    | atm =>
      rw [pR] at h
      have hpe : p.out = pre := hp
      by_cases hbb : p.bad = true
      · rw [if_pos hbb] at h; injection h with h; subst h; cases hb
      · rw [if_neg hbb] at h
        cases ht : l[p.at_]? with
        | none => rw [ht] at h; injection h with h; subst h; cases hb
        | some t =>
          have hm := List.mem_of_getElem? ht
          rw [ht] at h
          simp only at h
          by_cases k1 : t.kind = 1
          · rw [if_pos k1] at h; injection h with h; subst h
            refine tree_leaf ⟨rfl, rfl, .inl ⟨rfl, rfl, rfl, ?_⟩⟩ hpe
            show (litV t.text).getD 0 < _
            have hs := hT.lit t hm k1
            cases hv : litV t.text with
            | none => rw [hv] at hs; cases hs
            | some v => exact litV_lt hv
          · rw [if_neg k1] at h
            by_cases k2 : t.kind = 2
            · rw [if_pos k2] at h
              by_cases t1 : t.text = syTrue
              · rw [if_pos t1] at h; injection h with h; subst h
                exact tree_leaf ⟨rfl, rfl, .inr (.inl ⟨rfl, rfl, rfl, Nat.le_refl _⟩)⟩ hpe
              · rw [if_neg t1] at h
                by_cases t2 : t.text = syFalse
                · rw [if_pos t2] at h; injection h with h; subst h
                  exact tree_leaf ⟨rfl, rfl, .inr (.inl ⟨rfl, rfl, rfl, Nat.zero_le _⟩)⟩ hpe
                · rw [if_neg t2] at h; injection h with h; subst h
                  rw [← hpe]
                  exact pVar_tree (p := p.adv) hT (hT.nam t hm k2) (hT.wd t hm k2) t1 t2 hb
            · rw [if_neg k2] at h
              by_cases hs : see l p syOpen = true
              · rw [if_pos hs] at h
                obtain ⟨y, hy, h3⟩ := Option.bind_eq_some_iff.1 h
                by_cases hcl : see l y.2 syClose = true
                · rw [if_pos hcl] at h3; injection h3 with h3; subst h3
                  obtain ⟨v, c1, c2, c3⟩ := ih _ _ _ pre hy (see_lt hcl).2 hp
                  exact ⟨v, c1, c2, c3⟩
                · rw [if_neg hcl] at h3; injection h3 with h3; subst h3; cases hb
              · rw [if_neg hs] at h; injection h with h; subst h; cases hb
/-- the tree of an accepted text -/
theorem parse_tree {l : List Tok} (hT : TokGood l) (h : (parse l).2.2 = 0) : ∃ t : Tr, t.Ok ∧ (parse l).1 = t.flat 0 := by
  have hrun := pRun_some l
  unfold parse at h ⊢
  split at h
  · cases h
  · rename_i hn
    rw [if_neg hn]
    split at h
    · cases h
    · rename_i hm
      rw [if_neg hm]
      have hbad : (pRun l).2.bad = false := by
        cases hh : (pRun l).2.bad
        · rfl
        · exact absurd (.inl hh) hn
      obtain ⟨t, h1, h2, _⟩ := pR_tree hT _ _ _ _ [] hrun hbad rfl
      exact ⟨t, h1, by show (pRun l).2.out = _; rw [h2]; rfl⟩
theorem scan_tokGood (s : ByteArray) (h : (scan s).2.2 = 0) : TokGood (scan s).1 := by
  refine ⟨(scan_tokOk s h).lit, fun t ht hk => ?_, fun t ht hk => ?_⟩
  · rcases (scan_good s t ht).is with ⟨h1, _, _⟩ | ⟨h1, _⟩
    · rw [← h1]; exact hk
    · rw [hk] at h1; cases h1
  · rcases (scan_good s t ht).is with ⟨_, _, h1⟩ | ⟨h1, _⟩
    · exact h1
    · rw [hk] at h1; cases h1
theorem pTree_tree (s : ByteArray) (h : pOk s = true) : ∃ t : Tr, t.Ok ∧ pTree s = t.flat 0 := by
  unfold pOk at h
  rw [Bool.and_eq_true, decide_eq_true_iff, decide_eq_true_iff] at h
  unfold pTree
  rw [if_pos h.1]
  exact parse_tree (scan_tokGood s h.1) h.2
/-- each node's parts stand ahead of it -/
structure TrO (o : List Nd) : Prop where
  ok : ∀ (i : Nat) (n : Nd), o[i]? = some n → 1 ≤ n.op ∧ n.op ≤ 16 ∧ (4 ≤ n.op → n.a < i) ∧ (6 ≤ n.op → n.b < i) ∧ n.a < o.length ∧ n.b < o.length
theorem TrO.snoc {o : List Nd} (h : TrO o) {n : Nd} (h1 : 1 ≤ n.op) (h2 : n.op ≤ 16) (h3 : n.a < o.length ∨ n.a = 0 ∧ n.op ≤ 3) (h4 : n.b < o.length ∨ n.b = 0 ∧ n.op ≤ 5) : TrO (o ++ [n]) := by
  refine ⟨fun i m hm => ?_⟩
  rw [List.length_append, List.length_singleton]
  rcases Nat.lt_or_ge i o.length with hi | hi
  · rw [List.getElem?_append_left hi] at hm
    have := h.ok i m hm
    omega
  · have hi2 := (List.getElem?_eq_some_iff.1 hm).1
    rw [List.length_append, List.length_singleton] at hi2
    obtain rfl : i = o.length := by omega
    rw [List.getElem?_append_right (Nat.le_refl _), Nat.sub_self] at hm
    injection hm with hm
    subst hm
    omega
theorem Tr.tro (t : Tr) : ∀ pre, t.Ok → TrO pre → TrO (pre ++ t.flat pre.length) := by
  induction t with
  | leaf n =>
    intro pre h hp
    have h1 : LeafOk n := h
    have h2 := h1.op
    exact hp.snoc h2.1 (by omega) (.inr ⟨h1.a, h2.2⟩) (.inr ⟨h1.b, by omega⟩)
  | un o t ih =>
    intro pre h hp
    obtain ⟨h1, h2⟩ := h
    rw [Tr.flat, ← List.append_assoc]
    have := t.pos
    have hl : (pre ++ t.flat pre.length).length = pre.length + t.size := by rw [List.length_append, t.flat_len]
    refine (ih pre h2 hp).snoc (by show 1 ≤ o; omega) (by show o ≤ 16; omega) (.inl ?_) (.inr ⟨rfl, by show o ≤ 5; omega⟩)
    show pre.length + t.size - 1 < _
    omega
  | bin o t u ih1 ih2 =>
    intro pre h hp
    obtain ⟨h1, h2, h3, h4⟩ := h
    have e : pre ++ (Tr.bin o t u).flat pre.length = (pre ++ t.flat pre.length) ++ u.flat (pre ++ t.flat pre.length).length ++ [nd o (pre.length + t.size - 1) (pre.length + t.size + u.size - 1)] := by
      rw [Tr.flat, List.length_append, t.flat_len, List.append_assoc, List.append_assoc, List.append_assoc]
    have := t.pos
    have := u.pos
    have hl : ((pre ++ t.flat pre.length) ++ u.flat (pre ++ t.flat pre.length).length).length = pre.length + t.size + u.size := by rw [List.length_append, List.length_append, t.flat_len, u.flat_len]
    rw [e]
    refine (ih2 _ h4 (ih1 pre h3 hp)).snoc (by show 1 ≤ o; omega) h2 (.inl ?_) (.inl ?_)
    · show pre.length + t.size - 1 < _; omega
    · show pre.length + t.size + u.size - 1 < _; omega
theorem pTree_tro (s : ByteArray) (h : pOk s = true) : TrO (pTree s) := by
  obtain ⟨t, h1, h2⟩ := pTree_tree s h
  have := t.tro [] h1 ⟨fun i n hn => by cases hn⟩
  rw [h2]; exact this
theorem pTree_no (s : ByteArray) (h : pOk s = false) : pTree s = [] := by
  unfold pOk at h
  unfold pTree
  by_cases h1 : (scan s).2.2 = 0
  · rw [if_pos h1]
    rw [decide_eq_true h1, Bool.true_and, decide_eq_false_iff_not] at h
    unfold parse at h ⊢
    split
    · rfl
    · rename_i hn
      rw [if_neg hn] at h
      split
      · rfl
      · rename_i hm
        rw [if_neg hm] at h
        exact absurd rfl h
  · rw [if_neg h1]
theorem parse_tro {l : List Tok} (hT : TokGood l) : TrO (parse l).1 := by
  by_cases h : (parse l).2.2 = 0
  · obtain ⟨t, h1, h2⟩ := parse_tree hT h
    have := t.tro [] h1 ⟨fun i n hn => by cases hn⟩
    rw [h2]; rwa [List.nil_append] at this
  · have e : (parse l).1 = [] := by
      unfold parse at h ⊢
      split
      · rfl
      · rename_i hn
        rw [if_neg hn] at h
        split
        · rfl
        · rename_i hm
          rw [if_neg hm] at h
          exact absurd rfl h
    rw [e]
    exact ⟨fun i n hn => by cases hn⟩
end Go.Proofs.YtodmkmoglchoeaaDoor
