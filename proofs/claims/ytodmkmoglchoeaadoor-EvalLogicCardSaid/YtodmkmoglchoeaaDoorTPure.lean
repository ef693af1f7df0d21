/- Layer 8, pure: the type checker as one function of the tree and of the set of variables. -/
import Derived.Test.YtodmkmoglchoeaaDoorYTree
namespace Go.Proofs.YtodmkmoglchoeaaDoor
open Go.RowKit

/-- is a variable among these? -/
def vin (vs : List (ByteArray × ByteArray)) (a c : ByteArray) : Bool := vs.any fun v => decide (v.1 = a) && decide (v.2 = c)
theorem vin_iff (vs : List (ByteArray × ByteArray)) (a c : ByteArray) : vin vs a c = true ↔ (a, c) ∈ vs := by
  unfold vin
  rw [List.any_eq_true]
  constructor
  · rintro ⟨v, hv, h⟩
    rw [Bool.and_eq_true, decide_eq_true_iff, decide_eq_true_iff] at h
    obtain ⟨rfl, rfl⟩ := h
    exact hv
  · intro h
    exact ⟨_, h, by simp⟩
def numO (o : Nat) : Bool := decide (o = 1) || decide (o = 3) || decide (o = 4) || decide (o = 6) || decide (o = 7)
def typO (o : Nat) : Nat := if numO o = true then 1 else 2
/-- a node's type: 1 number, 2 truth, 0 there is no such node -/
def typAt (o : List Nd) (i : Nat) : Nat := match o[i]? with
  | some n => typO n.op
  | none => 0
/-- do operands of these types fit an operation? -/
def fitO (op x y : Nat) : Bool :=
  if op ≤ 3 then true
  else if op = 4 then decide (x = 1)
  else if op = 5 then decide (x = 2)
  else if op = 8 ∨ op = 9 then decide (x = y) && decide (x ≠ 0)
  else if 14 ≤ op then decide (x = 2) && decide (y = 2)
  else decide (x = 1) && decide (y = 1)
/-- a node's error -/
def ndE (o : List Nd) (vs : List (ByteArray × ByteArray)) (i : Nat) : Nat := match o[i]? with
  | some n => if n.op = 3 ∧ vin vs n.name n.attr = false then 6 else if fitO n.op (typAt o n.a) (typAt o n.b) = true then 0 else 12
  | none => 0
def chkF (e : Nat → Nat) (n : Nat) (fin : Nat × Nat) : Nat → Nat → Nat × Nat
  | 0, _ => fin
  | f + 1, i => if i < n then (if e i ≠ 0 then (i, e i) else chkF e n fin f (i + 1)) else fin
def chkEnd (o : List Nd) : Nat × Nat := if typAt o (o.length - 1) = 2 then (0, 0) else (o.length - 1, 12)
def chk (o : List Nd) (vs : List (ByteArray × ByteArray)) : Nat × Nat := chkF (ndE o vs) o.length (chkEnd o) o.length 0
theorem chkF_step {e : Nat → Nat} {n : Nat} {fin : Nat × Nat} {k : Nat} (hk : k < n) (h : e k = 0) : chkF e n fin (n - k) k = chkF e n fin (n - (k + 1)) (k + 1) := by
  rw [show n - k = (n - (k + 1)) + 1 by omega, chkF, if_pos hk, if_neg (by rw [h]; simp)]
theorem chkF_hit {e : Nat → Nat} {n : Nat} {fin : Nat × Nat} {k : Nat} (hk : k < n) (h : e k ≠ 0) : chkF e n fin (n - k) k = (k, e k) := by
  rw [show n - k = (n - (k + 1)) + 1 by omega, chkF, if_pos hk, if_pos h]
theorem chkF_end {e : Nat → Nat} {n : Nat} {fin : Nat × Nat} : chkF e n fin (n - n) n = fin := by rw [Nat.sub_self, chkF]
theorem chkF_zero {e : Nat → Nat} {n : Nat} {fin : Nat × Nat} : ∀ f i, (∀ j, e j = 0) → chkF e n fin f i = fin := by
  intro f
  induction f with
  | zero => intro i _; rfl
  | succ f ih =>
    intro i h
    rw [chkF]
    split
    · rw [if_neg (by rw [h i]; simp)]; exact ih _ h
    · rfl
theorem chkF_more {e e' : Nat → Nat} {n : Nat} {fin : Nat × Nat} (h : ∀ i, e i = 0 → e' i = 0) : ∀ f i, (chkF e n fin f i).2 = 0 → (chkF e' n fin f i).2 = 0 := by
  intro f
  induction f with
  | zero => intro i hz; exact hz
  | succ f ih =>
    intro i hz
    rw [chkF] at hz ⊢
    by_cases h1 : i < n
    · rw [if_pos h1] at hz ⊢
      by_cases h2 : e i ≠ 0
      · rw [if_pos h2] at hz; exact absurd hz h2
      · rw [if_neg h2] at hz
        have h3 : e i = 0 := by omega
        rw [if_neg (by rw [h i h3]; simp)]
        exact ih _ hz
    · rw [if_neg h1] at hz ⊢; exact hz
theorem chk_congr (o : List Nd) {vs us : List (ByteArray × ByteArray)} (h : ∀ a c, vin vs a c = vin us a c) : chk o vs = chk o us := by
  have : ndE o vs = ndE o us := by
    funext i
    unfold ndE
    cases o[i]? with
    | none => rfl
    | some n => simp only [h]
  unfold chk; rw [this]
theorem chk_more (o : List Nd) {vs us : List (ByteArray × ByteArray)} (h : ∀ a c, vin vs a c = true → vin us a c = true) (hz : (chk o vs).2 = 0) : (chk o us).2 = 0 := by
  refine chkF_more (fun i h0 => ?_) _ _ hz
  unfold ndE at h0 ⊢
  cases hn : o[i]? with
  | none => rfl
  | some n =>
    rw [hn] at h0
    simp only at h0 ⊢
    by_cases h1 : n.op = 3 ∧ vin vs n.name n.attr = false
    · rw [if_pos h1] at h0; cases h0
    · rw [if_neg h1] at h0
      rw [if_neg (fun h2 => h1 ⟨h2.1, by
        cases hv : vin vs n.name n.attr
        · rfl
        · have := h _ _ hv; rw [h2.2] at this; cases this⟩)]
      exact h0
/-- Compile -/
def cmpl (s : ByteArray) (vs : List (ByteArray × ByteArray)) : List Nd × Nat :=
  if s.size = 0 then ([⟨2, 0, 0, ⟨#[]⟩, ⟨#[]⟩, 1⟩], 0)
  else if (scan s).2.2 ≠ 0 then ([], (scan s).2.2)
  else if (parse (scan s).1).2.2 ≠ 0 then ([], (parse (scan s).1).2.2)
  else if (chk (parse (scan s).1).1 vs).2 ≠ 0 then ([], (chk (parse (scan s).1).1 vs).2)
  else ((parse (scan s).1).1, 0)
theorem cmpl_congr (s : ByteArray) {vs us : List (ByteArray × ByteArray)} (h : ∀ a c, vin vs a c = vin us a c) : cmpl s vs = cmpl s us := by
  unfold cmpl; rw [chk_congr _ h]
theorem cmpl_more (s : ByteArray) {vs us : List (ByteArray × ByteArray)} (h : ∀ a c, vin vs a c = true → vin us a c = true) (hz : (cmpl s vs).2 = 0) : (cmpl s us).2 = 0 := by
  unfold cmpl at hz ⊢
  split
  · rfl
  · rename_i h1
    rw [if_neg h1] at hz
    split
    · rename_i h2; rw [if_pos h2] at hz; exact hz
    · rename_i h2
      rw [if_neg h2] at hz
      split
      · rename_i h3; rw [if_pos h3] at hz; exact hz
      · rename_i h3
        rw [if_neg h3] at hz
        split
        · rename_i h4
          by_cases h5 : (chk (parse (scan s).1).1 vs).2 ≠ 0
          · rw [if_pos h5] at hz; exact absurd hz h5
          · exact absurd (chk_more _ h (by omega)) h4
        · rfl
theorem cmpl_len (s : ByteArray) (vs : List (ByteArray × ByteArray)) : (cmpl s vs).1.length ≤ 400 := by
  unfold cmpl
  split
  · show 1 ≤ 400; omega
  · split
    · exact Nat.zero_le _
    · split
      · exact Nat.zero_le _
      · split
        · exact Nat.zero_le _
        · exact Nat.le_trans (parse_len _) (scan_len s)
end Go.Proofs.YtodmkmoglchoeaaDoor
