/- Layer 9, pure: the types of a tree's parts, as the checker has found them. -/
import Derived.Test.YtodmkmoglchoeaaDoorEHold
namespace Go.Proofs.YtodmkmoglchoeaaDoor
open Go.RowKit

def Tr.op : Tr → Nat
  | .leaf n => n.op
  | .un o _ => o
  | .bin o _ _ => o
def Tr.ty (t : Tr) : Nat := typO t.op
def Tr.Wt : Tr → Prop
  | .leaf _ => True
  | .un o t => t.Wt ∧ (o = 4 → t.ty = 1) ∧ (o = 5 → t.ty = 2)
  | .bin o t u => t.Wt ∧ u.Wt ∧ fitO o t.ty u.ty = true
/-- the last node of a tree that stands behind b others -/
def Tr.root : Tr → Nat → Nd
  | .leaf n, _ => n
  | .un o t, b => nd o (b + t.size - 1) 0
  | .bin o t u, b => nd o (b + t.size - 1) (b + t.size + u.size - 1)
theorem Tr.root_op (t : Tr) (b : Nat) : (t.root b).op = t.op := by cases t <;> rfl
/-- a tree lies within a list of nodes -/
def TrIn (o : List Nd) (t : Tr) (b : Nat) : Prop := ∃ pre post, o = pre ++ t.flat b ++ post ∧ pre.length = b
theorem TrIn.root {o : List Nd} {t : Tr} {b : Nat} (h : TrIn o t b) : o[b + t.size - 1]? = some (t.root b) := by
  obtain ⟨pre, post, rfl, rfl⟩ := h
  have hp := t.pos
  have hl := t.flat_len pre.length
  rw [List.append_assoc, List.getElem?_append_right (by omega), List.getElem?_append_left (by omega), show pre.length + t.size - 1 - pre.length = t.size - 1 by omega]
  cases t with
  | leaf n => rfl
  | un o t =>
    show (t.flat pre.length ++ [nd o (pre.length + t.size - 1) 0])[t.size + 1 - 1]? = _
    rw [List.getElem?_append_right (by rw [t.flat_len]; omega), t.flat_len, show t.size + 1 - 1 - t.size = 0 by omega]
    rfl
  | bin o t u =>
    show (t.flat pre.length ++ u.flat (pre.length + t.size) ++ [nd o (pre.length + t.size - 1) (pre.length + t.size + u.size - 1)])[t.size + u.size + 1 - 1]? = _
    rw [List.getElem?_append_right (by rw [List.length_append, t.flat_len, u.flat_len]; omega), List.length_append, t.flat_len, u.flat_len, show t.size + u.size + 1 - 1 - (t.size + u.size) = 0 by omega]
    rfl
theorem TrIn.un {o : List Nd} {k : Nat} {t : Tr} {b : Nat} (h : TrIn o (.un k t) b) : TrIn o t b := by
  obtain ⟨pre, post, rfl, rfl⟩ := h
  exact ⟨pre, [nd k (pre.length + t.size - 1) 0] ++ post, by simp [Tr.flat], rfl⟩
theorem TrIn.left {o : List Nd} {k : Nat} {t u : Tr} {b : Nat} (h : TrIn o (.bin k t u) b) : TrIn o t b := by
  obtain ⟨pre, post, rfl, rfl⟩ := h
  exact ⟨pre, u.flat (pre.length + t.size) ++ [nd k (pre.length + t.size - 1) (pre.length + t.size + u.size - 1)] ++ post, by simp [Tr.flat], rfl⟩
theorem TrIn.right {o : List Nd} {k : Nat} {t u : Tr} {b : Nat} (h : TrIn o (.bin k t u) b) : TrIn o u (b + t.size) := by
  obtain ⟨pre, post, rfl, rfl⟩ := h
  exact ⟨pre ++ t.flat pre.length, [nd k (pre.length + t.size - 1) (pre.length + t.size + u.size - 1)] ++ post, by simp [Tr.flat], by rw [List.length_append, t.flat_len]⟩
theorem TrIn.lt {o : List Nd} {t : Tr} {b : Nat} (h : TrIn o t b) : b + t.size ≤ o.length := by
  obtain ⟨pre, post, rfl, rfl⟩ := h
  rw [List.length_append, List.length_append, t.flat_len]; omega
theorem TrIn.typ {o : List Nd} {t : Tr} {b : Nat} (h : TrIn o t b) : typAt o (b + t.size - 1) = t.ty := by
  unfold typAt
  rw [h.root]
  show typO (t.root b).op = _
  rw [t.root_op]; rfl
theorem wt_of {o : List Nd} {vs : List (ByteArray × ByteArray)} (hz : ∀ i, i < o.length → ndE o vs i = 0) (t : Tr) : ∀ b, t.Ok → TrIn o t b → t.Wt := by
  have fit : ∀ (t : Tr) (b : Nat), TrIn o t b → fitO t.op (typAt o (t.root b).a) (typAt o (t.root b).b) = true := by
    intro t b h
    have hp := t.pos
    have hl := h.lt
    have h1 := hz (b + t.size - 1) (by omega)
    unfold ndE at h1
    rw [h.root] at h1
    simp only at h1
    split at h1
    · cases h1
    · split at h1
      · rename_i h2; rw [t.root_op] at h2; exact h2
      · cases h1
  induction t with
  | leaf n => intro b _ _; trivial
  | un k t ih =>
    intro b hk h
    have h1 := fit _ _ h
    refine ⟨ih b hk.2 h.un, fun e => ?_, fun e => ?_⟩
    · subst e
      have h2 : decide (typAt o (b + t.size - 1) = 1) = true := h1
      rw [h.un.typ] at h2
      exact of_decide_eq_true h2
    · subst e
      have h2 : decide (typAt o (b + t.size - 1) = 2) = true := h1
      rw [h.un.typ] at h2
      exact of_decide_eq_true h2
  | bin k t u ih1 ih2 =>
    intro b hk h
    have h1 : fitO k (typAt o (b + t.size - 1)) (typAt o (b + t.size + u.size - 1)) = true := fit _ _ h
    rw [h.left.typ, h.right.typ] at h1
    exact ⟨ih1 b hk.2.2.1 h.left, ih2 _ hk.2.2.2 h.right, h1⟩
theorem chkF_zero2 {e : Nat → Nat} {n : Nat} {fin : Nat × Nat} : ∀ f i, n ≤ f + i → (chkF e n fin f i).2 = 0 → (∀ j, i ≤ j → j < n → e j = 0) ∧ fin.2 = 0 := by
  intro f
  induction f with
  | zero => intro i hf h; exact ⟨fun j h1 h2 => by omega, h⟩
  | succ f ih =>
    intro i hf h
    rw [chkF] at h
    by_cases h1 : i < n
    · rw [if_pos h1] at h
      by_cases h2 : e i ≠ 0
      · rw [if_pos h2] at h; exact absurd h h2
      · rw [if_neg h2] at h
        obtain ⟨k1, k2⟩ := ih (i + 1) (by omega) h
        refine ⟨fun j a b => ?_, k2⟩
        by_cases e2 : j = i
        · subst e2; omega
        · exact k1 j (by omega) b
    · rw [if_neg h1] at h
      exact ⟨fun j a b => by omega, h⟩
theorem chk_zero2 (o : List Nd) (vs : List (ByteArray × ByteArray)) (h : (chk o vs).2 = 0) : (∀ j, j < o.length → ndE o vs j = 0) ∧ (chkEnd o).2 = 0 := by
  obtain ⟨k1, k2⟩ := chkF_zero2 (e := ndE o vs) (n := o.length) (fin := chkEnd o) o.length 0 (Nat.le_refl _) h
  exact ⟨fun j hj => k1 j (Nat.zero_le _) hj, k2⟩
/-- what Compile accepts is a tree whose types are right -/
theorem cmpl_wt (s : ByteArray) (vs : List (ByteArray × ByteArray)) (hz : (cmpl s vs).2 = 0) : ∃ t : Tr, t.Ok ∧ t.Wt ∧ t.ty = 2 ∧ (cmpl s vs).1 = t.flat 0 := by
  unfold cmpl at hz ⊢
  split
  · exact ⟨.leaf ⟨2, 0, 0, ⟨#[]⟩, ⟨#[]⟩, 1⟩, ⟨rfl, rfl, .inr (.inl ⟨rfl, rfl, rfl, Nat.le_refl 1⟩)⟩, trivial, rfl, rfl⟩
  · rename_i h1
    rw [if_neg h1] at hz
    split
    · rename_i h2; rw [if_pos h2] at hz; exact absurd hz h2
    · rename_i h2
      rw [if_neg h2] at hz
      split
      · rename_i h3; rw [if_pos h3] at hz; exact absurd hz h3
      · rename_i h3
        rw [if_neg h3] at hz
        split
        · rename_i h4; rw [if_pos h4] at hz; exact absurd hz h4
        · rename_i h4
          obtain ⟨t, ht, he⟩ := parse_tree (scan_tokGood s (by omega)) (l := (scan s).1) (by omega)
          have hI : TrIn (parse (scan s).1).1 t 0 := ⟨[], [], by rw [he]; simp, rfl⟩
          obtain ⟨k1, k2⟩ := chk_zero2 _ vs (show (chk (parse (scan s).1).1 vs).2 = 0 by omega)
          refine ⟨t, ht, wt_of k1 t 0 ht hI, ?_, he⟩
          unfold chkEnd at k2
          split at k2
          · rename_i h5
            rw [← h5, ← hI.typ, he, t.flat_len, Nat.zero_add]
          · cases k2
end Go.Proofs.YtodmkmoglchoeaaDoor
