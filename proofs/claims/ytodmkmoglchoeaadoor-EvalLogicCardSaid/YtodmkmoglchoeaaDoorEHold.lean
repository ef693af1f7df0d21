/- Contracts, joined: EPure, EMn, EOp, EVals, EMean, EHold. -/
import Derived.Test.YtodmkmoglchoeaaDoorTPure
import Derived.Test.YtodmkmoglchoeaaDoorNLawP
import Derived.Test.YtodmkmoglchoeaaDoorTProg
import Derived.RangeFuncBox
import Derived.RangeFuncLeaves
import Derived.RangeFuncNested
import Derived.RangeFuncWrites
import Derived.Shelf.Abstract
import Derived.WalkKit
import Derived.OwnWalkIn
import Derived.TacticsInMore
import Derived.LoopNIn
import Derived.LoopIn
import Derived.Maps.OwnIn
import Derived.Test.YtodmkmoglchoeaaDoorTVars
namespace Go.Proofs.YtodmkmoglchoeaaDoor
/- Layer 9, pure: the meaning of a tree's nodes, node by node as the program makes them, and of the tree as a whole. -/
section
open Go.RowKit

inductive Mn where
  | num (z : Int)
  | tru (b : Bool)
deriving DecidableEq
def mnAt (l : List Mn) (i : Nat) : Mn := match l[i]? with
  | some m => m
  | none => .tru false
def Mn.int : Mn → Int
  | .num z => z
  | .tru _ => 0
def Mn.bool : Mn → Bool
  | .num _ => false
  | .tru b => b
def cmpM (op : Nat) (a b : Int) : Mn :=
  if op = 4 then .num (-a) else if op = 6 then .num (a + b) else if op = 7 then .num (a - b)
  else if op = 10 then .tru (decide (a < b)) else if op = 11 then .tru (decide (a ≤ b)) else if op = 12 then .tru (decide (b < a)) else if op = 13 then .tru (decide (b ≤ a)) else .tru false
def decM (op : Nat) (a b : Bool) : Mn :=
  if op = 5 then .tru (!a) else if op = 14 then .tru (a && b) else if op = 15 then .tru (a || b) else if op = 16 then .tru (!a || b) else .tru false
def opMn (op : Nat) (x y : Mn) : Mn :=
  if op = 8 then .tru (decide (x = y)) else if op = 9 then .tru (!decide (x = y))
  else match x with
  | .num a => cmpM op a y.int
  | .tru a => decM op a y.bool
def ndM (env : ByteArray → ByteArray → Nat) (n : Nd) (l : List Mn) : Mn :=
  if n.op = 1 then .num n.val else if n.op = 2 then .tru (decide (n.val = 1)) else if n.op = 3 then .num (env n.name n.attr) else opMn n.op (mnAt l n.a) (mnAt l n.b)
/-- the meanings of nodes behind others -/
def mnF (env : ByteArray → ByteArray → Nat) : List Nd → List Mn → List Mn
  | [], l => l
  | n :: r, l => mnF env r (l ++ [ndM env n l])
def mns (env : ByteArray → ByteArray → Nat) (o : List Nd) : List Mn := mnF env o []
def hldN (env : ByteArray → ByteArray → Nat) (o : List Nd) : Bool := (mnAt (mns env o) (o.length - 1)).bool
theorem mnF_app (env : ByteArray → ByteArray → Nat) (o : List Nd) : ∀ (p : List Nd) (l : List Mn), mnF env (o ++ p) l = mnF env p (mnF env o l) := by
  induction o with
  | nil => intro p l; rfl
  | cons n r ih => intro p l; exact ih p _
theorem mnF_len (env : ByteArray → ByteArray → Nat) (o : List Nd) : ∀ l : List Mn, (mnF env o l).length = l.length + o.length := by
  induction o with
  | nil => intro l; rfl
  | cons n r ih => intro l; rw [mnF, ih]; simp; omega
theorem mns_len (env : ByteArray → ByteArray → Nat) (o : List Nd) : (mns env o).length = o.length := by rw [mns, mnF_len]; simp
theorem mns_snoc (env : ByteArray → ByteArray → Nat) (o : List Nd) (n : Nd) : mns env (o ++ [n]) = mns env o ++ [ndM env n (mns env o)] := by rw [mns, mnF_app]; rfl
theorem mnF_pre (env : ByteArray → ByteArray → Nat) (o : List Nd) : ∀ l : List Mn, ∃ L, mnF env o l = l ++ L := by
  induction o with
  | nil => intro l; exact ⟨[], by simp [mnF]⟩
  | cons n r ih =>
    intro l
    obtain ⟨L, hL⟩ := ih (l ++ [ndM env n l])
    exact ⟨_, by rw [mnF, hL, List.append_assoc]⟩
theorem mns_take (env : ByteArray → ByteArray → Nat) (o : List Nd) (k : Nat) (hk : k ≤ o.length) : mns env (o.take k) = (mns env o).take k := by
  have e : mns env o = mnF env (o.drop k) (mns env (o.take k)) := by
    have := mnF_app env (o.take k) (o.drop k) []
    rw [List.take_append_drop] at this
    exact this
  obtain ⟨L, hL⟩ := mnF_pre env (o.drop k) (mns env (o.take k))
  have hl : (mns env (o.take k)).length = k := by rw [mns_len, List.length_take]; omega
  rw [e, hL, List.take_left' hl]
theorem mns_at (env : ByteArray → ByteArray → Nat) (o : List Nd) (k : Nat) (n : Nd) (hn : o[k]? = some n) : (mns env o)[k]? = some (ndM env n ((mns env o).take k)) := by
  obtain ⟨hk, rfl⟩ := List.getElem?_eq_some_iff.1 hn
  have h1 : mns env (o.take (k + 1)) = (mns env o).take (k + 1) := mns_take env o (k + 1) (by omega)
  rw [List.take_succ_eq_append_getElem hk, mns_snoc, mns_take env o k (by omega)] at h1
  have h2 : ((mns env o).take (k + 1))[k]? = (mns env o)[k]? := List.getElem?_take_of_lt (by omega)
  rw [← h2, ← h1, List.getElem?_append_right (by rw [List.length_take, mns_len]; omega), List.length_take, mns_len, show k - min k o.length = 0 by omega]
  rfl
/-- the meaning of a tree -/
def Tr.mn (env : ByteArray → ByteArray → Nat) : Tr → Mn
  | .leaf n => ndM env n []
  | .un o t => opMn o (t.mn env) (.tru false)
  | .bin o t u => opMn o (t.mn env) (u.mn env)
def Bnd (m : Mn) (k : Nat) : Prop := ∀ z, m = .num z → z.natAbs ≤ k * 340282366920938463463374607431768211456
theorem Bnd.mono {m : Mn} {j k : Nat} (h : Bnd m j) (hjk : j ≤ k) : Bnd m k := fun z hz => Nat.le_trans (h z hz) (Nat.mul_le_mul_right _ hjk)
theorem bnd_tru (b : Bool) (k : Nat) : Bnd (.tru b) k := fun z hz => by cases hz
theorem bnd_int {m : Mn} {k : Nat} (h : Bnd m k) : m.int.natAbs ≤ k * 340282366920938463463374607431768211456 := by
  cases m with
  | num z => exact h z rfl
  | tru b => exact Nat.zero_le _
theorem cmpM_bnd {op : Nat} {x y : Mn} {j k : Nat} (h1 : Bnd x j) (h2 : Bnd y k) : Bnd (cmpM op x.int y.int) (j + k) := by
  have a1 := bnd_int h1
  have a2 := bnd_int h2
  intro z hz
  rw [Nat.add_mul]
  unfold cmpM at hz
  split at hz
  · injection hz with hz; omega
  · split at hz
    · injection hz with hz; omega
    · split at hz
      · injection hz with hz; omega
      · split at hz
        · cases hz
        · split at hz
          · cases hz
          · split at hz
            · cases hz
            · split at hz <;> cases hz
theorem decM_tru (op : Nat) (a b : Bool) : ∃ c, decM op a b = .tru c := by
  unfold decM
  split
  · exact ⟨_, rfl⟩
  · split
    · exact ⟨_, rfl⟩
    · split
      · exact ⟨_, rfl⟩
      · split
        · exact ⟨_, rfl⟩
        · exact ⟨_, rfl⟩
theorem opMn_bnd {op : Nat} {x y : Mn} {j k : Nat} (h1 : Bnd x j) (h2 : Bnd y k) : Bnd (opMn op x y) (j + k) := by
  unfold opMn
  split
  · exact bnd_tru _ _
  · split
    · exact bnd_tru _ _
    · cases x with
      | num a => exact cmpM_bnd (x := .num a) h1 h2
      | tru a =>
        obtain ⟨c, hc⟩ := decM_tru op a y.bool
        show Bnd (decM op a y.bool) _
        rw [hc]; exact bnd_tru _ _
def EnvB (env : ByteArray → ByteArray → Nat) : Prop := ∀ a c, env a c < 340282366920938463463374607431768211456
theorem leaf_mn {env : ByteArray → ByteArray → Nat} {n : Nd} (h : LeafOk n) (l : List Mn) : ndM env n l = ndM env n [] := by
  have := h.op
  unfold ndM
  by_cases h1 : n.op = 1
  · rw [if_pos h1, if_pos h1]
  · rw [if_neg h1, if_neg h1]
    by_cases h2 : n.op = 2
    · rw [if_pos h2, if_pos h2]
    · rw [if_neg h2, if_neg h2, if_pos (by omega), if_pos (by omega)]
theorem leaf_bnd {env : ByteArray → ByteArray → Nat} (hE : EnvB env) {n : Nd} (h : LeafOk n) : Bnd (ndM env n []) 1 := by
  unfold ndM
  intro z hz
  rcases h.is with ⟨e, _, _, hv⟩ | ⟨e, _⟩ | ⟨e, _⟩
  · rw [if_pos e] at hz
    injection hz with hz
    omega
  · rw [if_neg (by omega), if_pos e] at hz
    cases hz
  · rw [if_neg (by omega), if_neg (by omega), if_pos e] at hz
    injection hz with hz
    have := hE n.name n.attr
    omega
theorem mnAt_last (l : List Mn) (m : Mn) : mnAt (l ++ [m]) l.length = m := by
  unfold mnAt
  rw [List.getElem?_append_right (Nat.le_refl _), Nat.sub_self]
  rfl
theorem mnAt_app {l : List Mn} (L : List Mn) {i : Nat} (h : i < l.length) : mnAt (l ++ L) i = mnAt l i := by
  unfold mnAt
  rw [List.getElem?_append_left h]
theorem mnF_tree {env : ByteArray → ByteArray → Nat} (hE : EnvB env) (t : Tr) : ∀ l : List Mn, t.Ok → ∃ L, mnF env (t.flat l.length) l = l ++ L ∧ L.length = t.size ∧ mnAt (l ++ L) (l.length + t.size - 1) = t.mn env ∧ (∀ m ∈ L, Bnd m t.size) := by
  induction t with
  | leaf n =>
    intro l h
    refine ⟨[ndM env n l], rfl, rfl, ?_, ?_⟩
    · show mnAt _ (l.length + 1 - 1) = _
      rw [Nat.add_sub_cancel, mnAt_last, leaf_mn h]; rfl
    · intro m hm
      obtain rfl : m = ndM env n l := by simpa using hm
      rw [leaf_mn h]; exact leaf_bnd hE h
  | un o t ih =>
    intro l h
    obtain ⟨ho, ht⟩ := h
    obtain ⟨L, h1, h2, h3, h4⟩ := ih l ht
    have hp := t.pos
    have hbt : Bnd (t.mn env) t.size := by
      rw [← h3]
      unfold mnAt
      rw [List.getElem?_append_right (by omega)]
      have hlt : l.length + t.size - 1 - l.length < L.length := by omega
      rw [List.getElem?_eq_getElem hlt]
      exact h4 _ (List.getElem_mem hlt)
    have e1 : ndM env (nd o (l.length + t.size - 1) 0) (l ++ L) = opMn o (t.mn env) (mnAt (l ++ L) 0) := by
      unfold ndM
      rw [if_neg (by show ¬ o = 1; omega), if_neg (by show ¬ o = 2; omega), if_neg (by show ¬ o = 3; omega)]
      show opMn o (mnAt (l ++ L) (l.length + t.size - 1)) (mnAt (l ++ L) 0) = _
      rw [h3]
    have e2 : ∀ y, opMn o (t.mn env) y = opMn o (t.mn env) (.tru false) := by
      intro y
      unfold opMn
      rw [if_neg (by omega), if_neg (by omega), if_neg (by omega), if_neg (by omega)]
      cases t.mn env with
      | num a =>
        rcases ho with rfl | rfl <;> rfl
      | tru a => rcases ho with rfl | rfl <;> rfl
    refine ⟨L ++ [opMn o (t.mn env) (.tru false)], ?_, ?_, ?_, ?_⟩
    · show mnF env (t.flat l.length ++ [_]) l = _
      rw [mnF_app, h1]
      show (l ++ L) ++ [ndM env _ (l ++ L)] = _
      rw [e1, e2, List.append_assoc]
    · rw [List.length_append, h2]; rfl
    · show mnAt _ (l.length + (t.size + 1) - 1) = _
      rw [← List.append_assoc, show l.length + (t.size + 1) - 1 = (l ++ L).length by rw [List.length_append, h2]; omega, mnAt_last]; rfl
    · intro m hm
      rcases List.mem_append.1 hm with hm | hm
      · exact (h4 m hm).mono (by show _ ≤ t.size + 1; omega)
      · obtain rfl : m = opMn o (t.mn env) (.tru false) := by simpa using hm
        exact (opMn_bnd hbt (bnd_tru false 1)).mono (Nat.le_refl _)
  | bin o t u ih1 ih2 =>
    intro l h
    obtain ⟨h6, h16, ht, hu⟩ := h
    obtain ⟨L, h1, h2, h3, h4⟩ := ih1 l ht
    obtain ⟨M, k1, k2, k3, k4⟩ := ih2 (l ++ L) hu
    have hp := t.pos
    have hq := u.pos
    have hll : (l ++ L).length = l.length + t.size := by rw [List.length_append, h2]
    rw [hll] at k1 k3
    have hbt : Bnd (t.mn env) t.size := by
      rw [← h3]
      unfold mnAt
      rw [List.getElem?_append_right (by omega)]
      have hlt : l.length + t.size - 1 - l.length < L.length := by omega
      rw [List.getElem?_eq_getElem hlt]
      exact h4 _ (List.getElem_mem hlt)
    have hbu : Bnd (u.mn env) u.size := by
      rw [← k3]
      unfold mnAt
      rw [List.getElem?_append_right (by rw [hll]; omega), hll]
      have hlt : l.length + t.size + u.size - 1 - (l.length + t.size) < M.length := by omega
      rw [List.getElem?_eq_getElem hlt]
      exact k4 _ (List.getElem_mem hlt)
    have e1 : ndM env (nd o (l.length + t.size - 1) (l.length + t.size + u.size - 1)) (l ++ L ++ M) = opMn o (t.mn env) (u.mn env) := by
      unfold ndM
      rw [if_neg (by show ¬ o = 1; omega), if_neg (by show ¬ o = 2; omega), if_neg (by show ¬ o = 3; omega)]
      show opMn o (mnAt (l ++ L ++ M) (l.length + t.size - 1)) (mnAt (l ++ L ++ M) (l.length + t.size + u.size - 1)) = _
      rw [k3, mnAt_app _ (by rw [hll]; omega), h3]
    refine ⟨L ++ M ++ [opMn o (t.mn env) (u.mn env)], ?_, ?_, ?_, ?_⟩
    · show mnF env (t.flat l.length ++ u.flat (l.length + t.size) ++ [_]) l = _
      rw [mnF_app, mnF_app, h1, k1]
      show (l ++ L ++ M) ++ [ndM env _ (l ++ L ++ M)] = _
      rw [e1]
      simp only [List.append_assoc]
    · rw [List.length_append, List.length_append, h2, k2]; rfl
    · show mnAt _ (l.length + (t.size + u.size + 1) - 1) = _
      rw [show l ++ (L ++ M ++ [opMn o (t.mn env) (u.mn env)]) = (l ++ L ++ M) ++ [opMn o (t.mn env) (u.mn env)] by simp only [List.append_assoc], show l.length + (t.size + u.size + 1) - 1 = (l ++ L ++ M).length by rw [List.length_append, hll, k2]; omega, mnAt_last]; rfl
    · intro m hm
      rcases List.mem_append.1 hm with hm | hm
      · rcases List.mem_append.1 hm with hm | hm
        · exact (h4 m hm).mono (by show _ ≤ t.size + u.size + 1; omega)
        · exact (k4 m hm).mono (by show _ ≤ t.size + u.size + 1; omega)
      · obtain rfl : m = opMn o (t.mn env) (u.mn env) := by simpa using hm
        exact (opMn_bnd hbt hbu).mono (by show _ ≤ t.size + u.size + 1; omega)
theorem mns_tree {env : ByteArray → ByteArray → Nat} (hE : EnvB env) (t : Tr) (h : t.Ok) : hldN env (t.flat 0) = (t.mn env).bool ∧ ∀ m ∈ mns env (t.flat 0), Bnd m t.size := by
  obtain ⟨L, h1, h2, h3, h4⟩ := mnF_tree hE t [] h
  rw [List.nil_append] at h1 h3
  have e : mns env (t.flat 0) = L := h1
  refine ⟨?_, by rw [e]; exact h4⟩
  unfold hldN
  rw [e, t.flat_len]
  rw [show ([] : List Mn).length + t.size - 1 = t.size - 1 by simp] at h3
  rw [h3]
/-- what Compile accepts is a tree -/
theorem cmpl_tree (s : ByteArray) (vs : List (ByteArray × ByteArray)) (hz : (cmpl s vs).2 = 0) : ∃ t : Tr, t.Ok ∧ (cmpl s vs).1 = t.flat 0 := by
  unfold cmpl at hz ⊢
  split
  · exact ⟨.leaf ⟨2, 0, 0, ⟨#[]⟩, ⟨#[]⟩, 1⟩, ⟨rfl, rfl, .inr (.inl ⟨rfl, rfl, rfl, Nat.le_refl 1⟩)⟩, rfl⟩
  · rename_i h1
    rw [if_neg h1] at hz
    split
    · rename_i h2; rw [if_pos h2] at hz; exact absurd hz h2
    · rename_i h2
      rw [if_neg h2] at hz
      split
      · rename_i h3; rw [if_pos h3] at hz; exact absurd hz h3
      · rename_i h3
        rw [if_neg h3] at hz
        split
        · rename_i h4; rw [if_pos h4] at hz; exact absurd hz h4
        · exact parse_tree (scan_tokGood s (by omega)) (by omega)
def EnvRg (l : List Mn) : Prop := ∀ m ∈ l, Bnd m 400
theorem cmpl_rg {env : ByteArray → ByteArray → Nat} (hE : EnvB env) (s : ByteArray) (vs : List (ByteArray × ByteArray)) (hz : (cmpl s vs).2 = 0) : EnvRg (mns env (cmpl s vs).1) := by
  obtain ⟨t, h1, h2⟩ := cmpl_tree s vs hz
  have hl := cmpl_len s vs
  rw [h2, t.flat_len] at hl
  rw [h2]
  intro m hm
  exact ((mns_tree hE t h1).2 m hm).mono hl
end
/- Layer 9: the program's operations on meanings. -/
section
open Go.RowKit Go.Maps

def mV : Mn → Value
  | .num z => .iface 173 (.agg #[.int .u32 (wd z 0), .int .u32 (wd z 1), .int .u32 (wd z 2), .int .u32 (wd z 3), .int .u32 (wd z 4), .int .u32 (wd z 5)])
  | .tru b => .iface 138 (.bool b)
set_option maxRecDepth 100000 in
set_option maxHeartbeats 2000000 in
theorem ev_decide (op : Nat) (a b : Bool) (w : World) : Calls Tryd.prog 75 #[.int .i64 op, .bool a, .bool b] w (RetX (mV (decM op a b)) w) := by
  by_cases h5 : op = 5
  · subst h5
    go_enter Tryd.func75, Tryd.ntmps75
    go_wp2
    go_ret
    exact ⟨rfl, Below.refl _ _⟩
  · by_cases h14 : op = 14
    · subst h14
      cases a <;> cases b
      all_goals
        go_enter Tryd.func75, Tryd.ntmps75
        go_wp2
        go_ret
        exact ⟨rfl, Below.refl _ _⟩
    · by_cases h15 : op = 15
      · subst h15
        cases a <;> cases b
        all_goals
          go_enter Tryd.func75, Tryd.ntmps75
          go_wp2
          go_ret
          exact ⟨rfl, Below.refl _ _⟩
      · by_cases h16 : op = 16
        · subst h16
          cases a <;> cases b
          all_goals
            go_enter Tryd.func75, Tryd.ntmps75
            go_wp2
            go_ret
            exact ⟨rfl, Below.refl _ _⟩
        · have e : decM op a b = .tru false := by unfold decM; rw [if_neg h5, if_neg h14, if_neg h15, if_neg h16]
          have q5 : ((op : Int) == 5) = false := by rw [beq_eq_false_iff_ne]; omega
          have q14 : ((op : Int) == 14) = false := by rw [beq_eq_false_iff_ne]; omega
          have q15 : ((op : Int) == 15) = false := by rw [beq_eq_false_iff_ne]; omega
          have q16 : ((op : Int) == 16) = false := by rw [beq_eq_false_iff_ne]; omega
          have p5 : ¬ (op : Int) = 5 := by omega
          have p14 : ¬ (op : Int) = 14 := by omega
          have p15 : ¬ (op : Int) = 15 := by omega
          have p16 : ¬ (op : Int) = 16 := by omega
          rw [e]
          clear e h5 h14 h15 h16
          go_enter Tryd.func75, Tryd.ntmps75
          go_wp2
          go_ret
          exact ⟨rfl, Below.refl _ _⟩
set_option maxRecDepth 100000 in
theorem as_ii (v : Value) (w : World) : (Instr.typeAssert (.iface 173 v) 136 173 true).run Tryd.prog w = .ok (.tuple #[v, .bool true]) w := by kernel_rfl
set_option maxRecDepth 100000 in
theorem as_tt (v : Value) (w : World) : (Instr.typeAssert (.iface 138 v) 136 138 true).run Tryd.prog w = .ok (.tuple #[v, .bool true]) w := by kernel_rfl
set_option maxRecDepth 100000 in
theorem as_ti (v : Value) (w : World) : (Instr.typeAssert (.iface 138 v) 136 173 true).run Tryd.prog w = .ok (.tuple #[.agg #[.int .u32 0, .int .u32 0, .int .u32 0, .int .u32 0, .int .u32 0, .int .u32 0], .bool false]) w := by kernel_rfl
set_option maxRecDepth 100000 in
theorem as_it (v : Value) (w : World) : (Instr.typeAssert (.iface 173 v) 136 138 true).run Tryd.prog w = .ok (.tuple #[.bool false, .bool false]) w := by kernel_rfl
set_option maxRecDepth 100000 in
theorem me_i (k : Nat) (v : Value) (w : World) : (method (k + 1) 173 v "matchguard/eval.equals").run Tryd.prog w = .ok (129, v) w := by kernel_rfl
set_option maxRecDepth 100000 in
theorem me_t (k : Nat) (v : Value) (w : World) : (method (k + 1) 138 v "matchguard/eval.equals").run Tryd.prog w = .ok (128, v) w := by kernel_rfl
set_option maxRecDepth 100000 in
theorem na_i (k : Nat) (a0 a1 a2 a3 a4 a5 : Int) (w : World) : (nilAhead (k + 1) 173 (.agg #[.int .u32 a0, .int .u32 a1, .int .u32 a2, .int .u32 a3, .int .u32 a4, .int .u32 a5]) "matchguard/eval.equals").run Tryd.prog w = .ok (some false) w := by kernel_rfl
set_option maxRecDepth 100000 in
theorem na_t (k : Nat) (b : Bool) (w : World) : (nilAhead (k + 1) 138 (.bool b) "matchguard/eval.equals").run Tryd.prog w = .ok (some false) w := by kernel_rfl
set_option maxRecDepth 100000 in
set_option maxHeartbeats 2000000 in
theorem ev_eq_tru (a : Bool) (y : Mn) (w : World) : Calls Tryd.prog 128 #[.bool a, mV y] w (RetX (.bool (decide (Mn.tru a = y))) w) := by
  have q1 := as_tt
  have q2 := as_it
  cases y with
  | tru b =>
    unfold mV
    cases a <;> cases b
    all_goals
      go_enter Tryd.func128, Tryd.ntmps128
      go_wp2
      go_ret
      exact ⟨rfl, Below.refl _ _⟩
  | num z =>
    have e : decide (Mn.tru a = Mn.num z) = false := rfl
    rw [e]
    unfold mV
    generalize wd z 0 = z0
    generalize wd z 1 = z1
    generalize wd z 2 = z2
    generalize wd z 3 = z3
    generalize wd z 4 = z4
    generalize wd z 5 = z5
    cases a
    all_goals
      go_enter Tryd.func128, Tryd.ntmps128
      go_wp2
      go_ret
      exact ⟨rfl, Below.refl _ _⟩
theorem sgn_lt (a b : Int) : decide (sgn a b < 0) = decide (a < b) := by unfold sgn; rw [decide_eq_decide]; split <;> (try split) <;> omega
theorem sgn_le (a b : Int) : decide (sgn a b ≤ 0) = decide (a ≤ b) := by unfold sgn; rw [decide_eq_decide]; split <;> (try split) <;> omega
theorem sgn_gt (a b : Int) : decide (0 < sgn a b) = decide (b < a) := by unfold sgn; rw [decide_eq_decide]; split <;> (try split) <;> omega
theorem sgn_ge (a b : Int) : decide (0 ≤ sgn a b) = decide (b ≤ a) := by unfold sgn; rw [decide_eq_decide]; split <;> (try split) <;> omega
theorem nn_negL (a : Int) (w : World) : Calls Tryd.prog 81 #[.agg #[.int .u32 (wd a 0), .int .u32 (wd a 1), .int .u32 (wd a 2), .int .u32 (wd a 3), .int .u32 (wd a 4), .int .u32 (wd a 5)]] w (RetN (-a) w) := nn_neg a w
set_option maxRecDepth 100000 in
set_option maxHeartbeats 4000000 in
theorem ev_compute (op : Nat) (a b : Int) (ha : Rg a) (hb : Rg b) (w : World) : Calls Tryd.prog 74 #[.int .i64 op, .agg #[.int .u32 (wd a 0), .int .u32 (wd a 1), .int .u32 (wd a 2), .int .u32 (wd a 3), .int .u32 (wd a 4), .int .u32 (wd a 5)], .agg #[.int .u32 (wd b 0), .int .u32 (wd b 1), .int .u32 (wd b 2), .int .u32 (wd b 3), .int .u32 (wd b 4), .int .u32 (wd b 5)]] w (RetX (mV (cmpM op a b)) w) := by
  have KC : Hid (∀ W, Calls Tryd.prog 84 #[.agg #[.int .u32 (wd a 0), .int .u32 (wd a 1), .int .u32 (wd a 2), .int .u32 (wd a 3), .int .u32 (wd a 4), .int .u32 (wd a 5)], .agg #[.int .u32 (wd b 0), .int .u32 (wd b 1), .int .u32 (wd b 2), .int .u32 (wd b 3), .int .u32 (wd b 4), .int .u32 (wd b 5)]] W (RetX (.int .i64 (sgn a b)) W)) := Lib.hid (nn_cmp a b ha hb)
  have L1 := Lib.hid (sgn_lt a b)
  have L2 := Lib.hid (sgn_le a b)
  have L3 := Lib.hid (sgn_gt a b)
  have L4 := Lib.hid (sgn_ge a b)
  obtain ⟨sg, hsg⟩ : ∃ s, s = sgn a b := ⟨_, rfl⟩
  rw [← hsg] at KC L1 L2 L3 L4
  clear hsg ha hb
  by_cases h4 : op = 4
  · subst h4
    have e : ∀ x y, cmpM 4 x y = .num (-x) := fun _ _ => rfl
    rw [e]
    unfold mV
    clear e KC L1 L2 L3 L4
    go_enter Tryd.func74, Tryd.ntmps74
    go_wp2_with (go_at_call 81; refine (nn_negL a _).mono ?_; rintro e w1 ⟨rfl, hb⟩)
    go_ret
    exact ⟨rfl, (((Below.refl _ _).alloc (by simp) _).alloc (by simp) _).trans (hb.mono (by simp; omega))⟩
  by_cases h6 : op = 6
  · subst h6
    have e : ∀ x y, cmpM 6 x y = .num (x + y) := fun _ _ => rfl
    rw [e]
    unfold mV
    clear e KC L1 L2 L3 L4
    go_enter Tryd.func74, Tryd.ntmps74
    go_wp2_with (go_at_call 82; refine (nn_addL a b _).mono ?_; rintro e w1 ⟨rfl, hb⟩)
    go_ret
    exact ⟨rfl, (((Below.refl _ _).alloc (by simp) _).alloc (by simp) _).trans (hb.mono (by simp; omega))⟩
  by_cases h7 : op = 7
  · subst h7
    have e : ∀ x y, cmpM 7 x y = .num (x - y) := fun _ _ => rfl
    rw [e]
    unfold mV
    clear e KC L1 L2 L3 L4
    go_enter Tryd.func74, Tryd.ntmps74
    go_wp2_with (go_at_call 83; refine (nn_subL a b _).mono ?_; rintro e w1 ⟨rfl, hb⟩)
    go_ret
    exact ⟨rfl, (((Below.refl _ _).alloc (by simp) _).alloc (by simp) _).trans (hb.mono (by simp; omega))⟩
  by_cases h10 : op = 10
  · subst h10
    have e : ∀ x y, cmpM 10 x y = .tru (decide (x < y)) := fun _ _ => rfl
    rw [e, ← L1.out]
    unfold mV
    clear e L1 L2 L3 L4
    go_enter Tryd.func74, Tryd.ntmps74
    go_wp2_with (go_at_call 84; refine (KC.out _).mono ?_; rintro e w1 ⟨rfl, hb⟩)
    go_ret
    exact ⟨by first | rfl | simp, (((Below.refl _ _).alloc (by simp) _).alloc (by simp) _).trans (hb.mono (by simp; omega))⟩
  by_cases h11 : op = 11
  · subst h11
    have e : ∀ x y, cmpM 11 x y = .tru (decide (x ≤ y)) := fun _ _ => rfl
    rw [e, ← L2.out]
    unfold mV
    clear e L1 L2 L3 L4
    go_enter Tryd.func74, Tryd.ntmps74
    go_wp2_with (go_at_call 84; refine (KC.out _).mono ?_; rintro e w1 ⟨rfl, hb⟩)
    go_ret
    exact ⟨by first | rfl | simp, (((Below.refl _ _).alloc (by simp) _).alloc (by simp) _).trans (hb.mono (by simp; omega))⟩
  by_cases h12 : op = 12
  · subst h12
    have e : ∀ x y, cmpM 12 x y = .tru (decide (y < x)) := fun _ _ => rfl
    rw [e, ← L3.out]
    unfold mV
    clear e L1 L2 L3 L4
    go_enter Tryd.func74, Tryd.ntmps74
    go_wp2_with (go_at_call 84; refine (KC.out _).mono ?_; rintro e w1 ⟨rfl, hb⟩)
    go_ret
    exact ⟨by first | rfl | simp, (((Below.refl _ _).alloc (by simp) _).alloc (by simp) _).trans (hb.mono (by simp; omega))⟩
  by_cases h13 : op = 13
  · subst h13
    have e : ∀ x y, cmpM 13 x y = .tru (decide (y ≤ x)) := fun _ _ => rfl
    rw [e, ← L4.out]
    unfold mV
    clear e L1 L2 L3 L4
    go_enter Tryd.func74, Tryd.ntmps74
    go_wp2_with (go_at_call 84; refine (KC.out _).mono ?_; rintro e w1 ⟨rfl, hb⟩)
    go_ret
    exact ⟨by first | rfl | simp, (((Below.refl _ _).alloc (by simp) _).alloc (by simp) _).trans (hb.mono (by simp; omega))⟩
  have e : cmpM op a b = .tru false := by unfold cmpM; rw [if_neg h4, if_neg h6, if_neg h7, if_neg h10, if_neg h11, if_neg h12, if_neg h13]
  rw [e]
  unfold mV
  have q4 : ((op : Int) == 4) = false := by rw [beq_eq_false_iff_ne]; omega
  have p4 : ¬ (op : Int) = 4 := by omega
  have q6 : ((op : Int) == 6) = false := by rw [beq_eq_false_iff_ne]; omega
  have p6 : ¬ (op : Int) = 6 := by omega
  have q7 : ((op : Int) == 7) = false := by rw [beq_eq_false_iff_ne]; omega
  have p7 : ¬ (op : Int) = 7 := by omega
  have q10 : ((op : Int) == 10) = false := by rw [beq_eq_false_iff_ne]; omega
  have p10 : ¬ (op : Int) = 10 := by omega
  have q11 : ((op : Int) == 11) = false := by rw [beq_eq_false_iff_ne]; omega
  have p11 : ¬ (op : Int) = 11 := by omega
  have q12 : ((op : Int) == 12) = false := by rw [beq_eq_false_iff_ne]; omega
  have p12 : ¬ (op : Int) = 12 := by omega
  have q13 : ((op : Int) == 13) = false := by rw [beq_eq_false_iff_ne]; omega
  have p13 : ¬ (op : Int) = 13 := by omega
  clear e KC L1 L2 L3 L4 h4 h6 h7 h10 h11 h12 h13
  go_enter Tryd.func74, Tryd.ntmps74
  go_wp2
  go_ret
  exact ⟨rfl, ((Below.refl _ _).alloc (by simp) _).alloc (by simp) _⟩
end
/- Layer 9: the program's operations on meanings, as a whole. -/
section
open Go.RowKit Go.Maps

def RgM (m : Mn) : Prop := ∀ z, m = .num z → Rg z
theorem RgM.of {z : Int} (h : RgM (.num z)) : Rg z := h z rfl
theorem bnd_rgM {m : Mn} (h : Bnd m 400) : RgM m := fun z hz => by
  have := h z hz
  unfold Rg
  omega
set_option maxRecDepth 100000 in
set_option maxHeartbeats 1000000 in
theorem eqc_int (d : Nat) (a0 a1 a2 a3 a4 a5 b0 b1 b2 b3 b4 b5 : Int) (w : World) : (Op.equalIn (d + 3) 173 (.agg #[.int .u32 a0, .int .u32 a1, .int .u32 a2, .int .u32 a3, .int .u32 a4, .int .u32 a5]) (.agg #[.int .u32 b0, .int .u32 b1, .int .u32 b2, .int .u32 b3, .int .u32 b4, .int .u32 b5])).run Tryd.prog w = .ok (six6 a0 a1 a2 a3 a4 a5 b0 b1 b2 b3 b4 b5) w := by
  have hS : Tryd.prog.underlying 173 = some (.struct (Tryd.prog.fieldsOf 173)) := by kernel_rfl
  have hV := fun w => eqc_six d a0 a1 a2 a3 a4 a5 b0 b1 b2 b3 b4 b5 w
  rw [show d + 3 = (d + 2) + 1 from rfl, run_equalIn_agg w (d + 2) 173 _ _ hS (by kernel_rfl)]
  simp only [Program.fieldsOf, Tryd.underlying173]
  clear hS
  go_simp
  cases six6 a0 a1 a2 a3 a4 a5 b0 b1 b2 b3 b4 b5 <;> rfl
set_option maxRecDepth 100000 in
theorem eqi_int (a b : Int) (ha : Rg a) (hb : Rg b) (w : World) : (Op.equalIn 10000 173 (.agg #[.int .u32 (wd a 0), .int .u32 (wd a 1), .int .u32 (wd a 2), .int .u32 (wd a 3), .int .u32 (wd a 4), .int .u32 (wd a 5)]) (.agg #[.int .u32 (wd b 0), .int .u32 (wd b 1), .int .u32 (wd b 2), .int .u32 (wd b 3), .int .u32 (wd b 4), .int .u32 (wd b 5)])).run Tryd.prog w = .ok (decide (a = b)) w := by
  rw [eqc_int 9997, six_eq a b ha hb]
set_option maxRecDepth 100000 in
theorem eq_int (a b : Int) (ha : Rg a) (hb : Rg b) (w : World) : (binOp .eql 173 (.agg #[.int .u32 (wd a 0), .int .u32 (wd a 1), .int .u32 (wd a 2), .int .u32 (wd a 3), .int .u32 (wd a 4), .int .u32 (wd a 5)]) (.agg #[.int .u32 (wd b 0), .int .u32 (wd b 1), .int .u32 (wd b 2), .int .u32 (wd b 3), .int .u32 (wd b 4), .int .u32 (wd b 5)])).run Tryd.prog w = .ok (.bool (decide (a = b))) w := by
  rw [run_eql_struct, eqc_int 9997, six_eq a b ha hb]; rfl
set_option maxRecDepth 100000 in
set_option maxHeartbeats 2000000 in
theorem ev_eq_num (a : Int) (y : Mn) (ha : Rg a) (hy : RgM y) (w : World) : Calls Tryd.prog 129 #[.agg #[.int .u32 (wd a 0), .int .u32 (wd a 1), .int .u32 (wd a 2), .int .u32 (wd a 3), .int .u32 (wd a 4), .int .u32 (wd a 5)], mV y] w (RetX (.bool (decide (Mn.num a = y))) w) := by
  have q1 := as_ii
  have q2 := as_ti
  cases y with
  | tru b =>
    have e : decide (Mn.num a = Mn.tru b) = false := rfl
    rw [e]
    unfold mV
    clear e
    go_enter Tryd.func129, Tryd.ntmps129
    go_wp2
    go_ret
    exact ⟨rfl, ((Below.refl _ _).alloc (by simp) _).alloc (by simp) _⟩
  | num b =>
    have e : decide (Mn.num a = Mn.num b) = decide (a = b) := by rw [decide_eq_decide]; constructor <;> (intro h; first | (injection h) | (rw [h]))
    have hE := eq_int a b ha hy.of
    have hF := eqi_int a b ha hy.of
    have hG : Tryd.prog.eqGuardType Tryd.prog.depth 173 = false := by kernel_rfl
    obtain ⟨eb, heb⟩ : ∃ t, t = decide (a = b) := ⟨_, rfl⟩
    rw [← heb] at hE hF e
    rw [e]
    unfold mV
    clear e heb ha hy
    go_enter Tryd.func129, Tryd.ntmps129
    go_wp2
    go_ret
    exact ⟨rfl, ((Below.refl _ _).alloc (by simp) _).alloc (by simp) _⟩
set_option maxRecDepth 100000 in
set_option maxHeartbeats 4000000 in
theorem ev_operate (op : Nat) (x y : Mn) (hx : RgM x) (hy : RgM y) (w : World) : Calls Tryd.prog 59 #[.int .i64 op, mV x, mV y] w (RetX (mV (opMn op x y)) w) := by
  have q1 := as_ii
  have q2 := as_ti
  have q3 := as_it
  have q4 := as_tt
  by_cases h8 : op = 8
  · subst h8
    have m1 := me_i
    have m2 := me_t
    have m3 := na_i
    have m4 := na_t
    have e : opMn 8 x y = .tru (decide (x = y)) := rfl
    rw [e]
    have KT := Lib.hid fun a W => ev_eq_tru a y W
    have KN : Hid (∀ a, Rg a → ∀ W, Calls Tryd.prog 129 #[.agg #[.int .u32 (wd a 0), .int .u32 (wd a 1), .int .u32 (wd a 2), .int .u32 (wd a 3), .int .u32 (wd a 4), .int .u32 (wd a 5)], mV y] W (RetX (.bool (decide (Mn.num a = y))) W)) := Lib.hid fun a h W => ev_eq_num a y h hy W
    have HX := Lib.hid hx
    clear e hx hy q1 q2 q3 q4
    cases x with
    | num a =>
      have K := Lib.hid (KN.out a HX.out.of)
      clear KN KT HX
      generalize decide (Mn.num a = y) = eb at K
      generalize mV y = yv at K
      unfold mV
      go_enter Tryd.func59, Tryd.ntmps59
      go_wp2_with (go_at_call 129; refine (K.out _).mono ?_; rintro e w1 ⟨rfl, hb⟩)
      go_ret
      exact ⟨rfl, hb⟩
    | tru a =>
      have K := Lib.hid (KT.out a)
      clear KN KT HX
      generalize decide (Mn.tru a = y) = eb at K
      generalize mV y = yv at K
      unfold mV
      go_enter Tryd.func59, Tryd.ntmps59
      go_wp2_with (go_at_call 128; refine (K.out _).mono ?_; rintro e w1 ⟨rfl, hb⟩)
      go_ret
      exact ⟨rfl, hb⟩
  by_cases h9 : op = 9
  · subst h9
    have m1 := me_i
    have m2 := me_t
    have m3 := na_i
    have m4 := na_t
    have e : opMn 9 x y = .tru (!decide (x = y)) := rfl
    rw [e]
    have KT := Lib.hid fun a W => ev_eq_tru a y W
    have KN : Hid (∀ a, Rg a → ∀ W, Calls Tryd.prog 129 #[.agg #[.int .u32 (wd a 0), .int .u32 (wd a 1), .int .u32 (wd a 2), .int .u32 (wd a 3), .int .u32 (wd a 4), .int .u32 (wd a 5)], mV y] W (RetX (.bool (decide (Mn.num a = y))) W)) := Lib.hid fun a h W => ev_eq_num a y h hy W
    have HX := Lib.hid hx
    clear e hx hy q1 q2 q3 q4
    cases x with
    | num a =>
      have K := Lib.hid (KN.out a HX.out.of)
      clear KN KT HX
      generalize decide (Mn.num a = y) = eb at K
      generalize mV y = yv at K
      unfold mV
      go_enter Tryd.func59, Tryd.ntmps59
      go_wp2_with (go_at_call 129; refine (K.out _).mono ?_; rintro e w1 ⟨rfl, hb⟩)
      go_ret
      exact ⟨rfl, hb⟩
    | tru a =>
      have K := Lib.hid (KT.out a)
      clear KN KT HX
      generalize decide (Mn.tru a = y) = eb at K
      generalize mV y = yv at K
      unfold mV
      go_enter Tryd.func59, Tryd.ntmps59
      go_wp2_with (go_at_call 128; refine (K.out _).mono ?_; rintro e w1 ⟨rfl, hb⟩)
      go_ret
      exact ⟨rfl, hb⟩
  have e8 : ((op : Int) == 8) = false := by rw [beq_eq_false_iff_ne]; omega
  have e9 : ((op : Int) == 9) = false := by rw [beq_eq_false_iff_ne]; omega
  have p8 : ¬ (op : Int) = 8 := by omega
  have p9 : ¬ (op : Int) = 9 := by omega
  cases x with
  | num a =>
    have e : opMn op (.num a) y = cmpM op a y.int := by unfold opMn; rw [if_neg h8, if_neg h9]
    rw [e]
    have hr : Rg y.int := by
      cases y with
      | num b => exact hy.of
      | tru b => exact (show Rg 0 from ⟨by decide, by decide⟩)
    have K := Lib.hid (ev_compute op a y.int hx.of hr)
    generalize mV (cmpM op a y.int) = R at K
    clear e hx hr h8 h9 q3 q4
    cases y with
    | num b =>
      unfold mV
      simp only [Mn.int] at K
      clear hy
      go_enter Tryd.func59, Tryd.ntmps59
      go_wp2_with (go_at_call 74; refine (K.out _).mono ?_; rintro e w1 ⟨rfl, hb⟩)
      go_ret
      exact ⟨rfl, (((Below.refl _ _).alloc (by simp) _).alloc (by simp) _).trans (hb.mono (by simp; omega))⟩
    | tru b =>
      unfold mV
      simp only [Mn.int] at K
      have z0 : wd 0 0 = 0 := by decide
      have z1 : wd 0 1 = 0 := by decide
      have z2 : wd 0 2 = 0 := by decide
      have z3 : wd 0 3 = 0 := by decide
      have z4 : wd 0 4 = 0 := by decide
      have z5 : wd 0 5 = 0 := by decide
      rw [z0, z1, z2, z3, z4, z5] at K
      clear hy
      go_enter Tryd.func59, Tryd.ntmps59
      go_wp2_with (go_at_call 74; refine (K.out _).mono ?_; rintro e w1 ⟨rfl, hb⟩)
      go_ret
      exact ⟨rfl, (((Below.refl _ _).alloc (by simp) _).alloc (by simp) _).trans (hb.mono (by simp; omega))⟩
  | tru a =>
    have e : opMn op (.tru a) y = decM op a y.bool := by unfold opMn; rw [if_neg h8, if_neg h9]
    rw [e]
    have K := Lib.hid (ev_decide op a y.bool)
    generalize mV (decM op a y.bool) = R at K
    clear e hx hy h8 h9 q1
    cases y with
    | num b =>
      unfold mV
      simp only [Mn.bool] at K
      go_enter Tryd.func59, Tryd.ntmps59
      go_wp2_with (go_at_call 75; refine (K.out _).mono ?_; rintro e w1 ⟨rfl, hb⟩)
      go_ret
      exact ⟨rfl, hb⟩
    | tru b =>
      unfold mV
      simp only [Mn.bool] at K
      go_enter Tryd.func59, Tryd.ntmps59
      go_wp2_with (go_at_call 75; refine (K.out _).mono ?_; rintro e w1 ⟨rfl, hb⟩)
      go_ret
      exact ⟨rfl, hb⟩
/-- meanings in memory -/
structure MnR (w : World) (A : Option Addr) (l : List Mn) : Prop where
  r : l = [] ∨ ∃ g, A = some ⟨g, 0, none⟩ ∧ g < w.heap.size ∧ ∀ k m, l[k]? = some m → w.cell? ⟨g, k, none⟩ = some (mV m)
theorem MnR.below {w w' : World} {A : Option Addr} {l : List Mn} (h : MnR w A l) (hb : Below w.heap.size w w') : MnR w' A l := by
  rcases h.r with h | ⟨g, h1, h2, h3⟩
  · exact ⟨.inl h⟩
  · exact ⟨.inr ⟨g, h1, Nat.lt_of_lt_of_le h2 hb.size, fun k m hm => by rw [hb.cell (p := ⟨g, _, none⟩) h2]; exact h3 k m hm⟩⟩
set_option maxRecDepth 100000 in
set_option maxHeartbeats 2000000 in
theorem ev_at (w : World) (A : Option Addr) (n c : Nat) (l : List Mn) (hl : l.length = n) (hc : n ≤ c) (h : MnR w A l) (i : Nat) : Calls Tryd.prog 39 #[.slice A n c, .int .i64 i] w (RetX (mV (mnAt l i)) w) := by
  by_cases hi : i < n
  · obtain ⟨m, hm⟩ : ∃ m, l[i]? = some m := ⟨_, List.getElem?_eq_getElem (by omega)⟩
    have e : mnAt l i = m := by unfold mnAt; rw [hm]
    obtain ⟨g, e1, l1, q⟩ := h.r.resolve_left (fun e => by rw [e] at hm; simp at hm)
    have c0 := q i m hm
    rw [e]
    generalize mV m = v at c0
    clear q e hm h hl
    subst e1
    have p0 : ¬ (i : Int) < 0 := by omega
    have p1 : ¬ (n : Int) ≤ (i : Int) := by omega
    have p2 : (i : Int) < (n : Int) := by omega
    have p3 : (i : Int) < (c : Int) := by omega
    have p4 : 0 ≤ (i : Int) := by omega
    clear hi hc
    go_enter Tryd.func39, Tryd.ntmps39
    go_wp2
    go_ret
    exact ⟨rfl, Below.refl _ _⟩
  · have e : mnAt l i = .tru false := by unfold mnAt; rw [List.getElem?_eq_none (by omega)]
    rw [e]
    unfold mV
    have p0 : ¬ (i : Int) < 0 := by omega
    have p1 : (n : Int) ≤ (i : Int) := by omega
    clear e h hl hi hc
    go_enter Tryd.func39, Tryd.ntmps39
    go_wp2
    go_ret
    exact ⟨rfl, Below.refl _ _⟩
end
/- Layer 9: bindings in memory; slices.Backward over them; the map of their values. -/
section
open Go.RowKit Go.Shelf Go.Maps

attribute [local go_sem] Oper.semAt_some

structure BindN where
  name : ByteArray
  attr : ByteArray
  val : Nat
  hn : name.size ≤ maxLen
  ha : attr.size ≤ maxLen
  hv : val < 340282366920938463463374607431768211456
/-- the value of the first binding of a variable -/
def envB : List BindN → ByteArray → ByteArray → Nat
  | [], _, _ => 0
  | b :: r, a, c => if b.name = a ∧ b.attr = c then b.val else envB r a c
theorem envB_lt (l : List BindN) (a c : ByteArray) : envB l a c < 340282366920938463463374607431768211456 := by
  induction l with
  | nil => show 0 < _; omega
  | cons b r ih =>
    unfold envB
    split
    · exact b.hv
    · exact ih
/-- bindings in memory -/
structure BiR (w : World) (A : Option Addr) (l : List BindN) : Prop where
  r : l = [] ∨ ∃ g, A = some ⟨g, 0, none⟩ ∧ g < w.heap.size ∧ ∀ k b, l[k]? = some b → w.cell? ⟨g, k * 4, none⟩ = some (.string b.name) ∧ w.cell? ⟨g, k * 4 + 1, none⟩ = some (.string b.attr) ∧ w.cell? ⟨g, k * 4 + 2, none⟩ = some (.int .u64 (hi b.val)) ∧ w.cell? ⟨g, k * 4 + 3, none⟩ = some (.int .u64 (lo b.val))
theorem BiR.below {w w' : World} {A : Option Addr} {l : List BindN} (h : BiR w A l) (hb : Below w.heap.size w w') : BiR w' A l := by
  rcases h.r with h | ⟨g, h1, h2, h3⟩
  · exact ⟨.inl h⟩
  · exact ⟨.inr ⟨g, h1, Nat.lt_of_lt_of_le h2 hb.size, fun k b hk => by rw [hb.cell (p := ⟨g, _, none⟩) h2, hb.cell (p := ⟨g, _, none⟩) h2, hb.cell (p := ⟨g, _, none⟩) h2, hb.cell (p := ⟨g, _, none⟩) h2]; exact h3 k b hk⟩⟩
def upF {α : Type} (f : Nat → α) (k : Nat) : List α := (List.range k).map f
theorem upF_succ {α : Type} (f : Nat → α) (k : Nat) : upF f (k + 1) = upF f k ++ [f k] := by simp [upF, List.range_succ]
theorem upF_len {α : Type} (f : Nat → α) (k : Nat) : (upF f k).length = k := by simp [upF]
/-- what lay below the base lies as it lay, and so does one block more -/
def KpB (n₀ Bs : Nat) (W W' : World) : Prop := Below n₀ W W' ∧ W'.heap[Bs]? = W.heap[Bs]?
theorem KpB.trans {n₀ Bs : Nat} {A B C : World} (h : KpB n₀ Bs A B) (k : KpB n₀ Bs B C) : KpB n₀ Bs A C := ⟨h.1.trans k.1, k.2.trans h.2⟩
theorem KpB.refl (n₀ Bs : Nat) (W : World) : KpB n₀ Bs W W := ⟨Below.refl _ _, rfl⟩
theorem KpB.cell {n₀ Bs : Nat} {A B : World} (h : KpB n₀ Bs A B) (i : Nat) : B.cell? ⟨Bs, i, none⟩ = A.cell? ⟨Bs, i, none⟩ := by
  simp [World.cell?, h.2]
def bEnc (x : Nat × BindN) : Array Value := #[.int .i64 (x.1 : Int), .agg #[.string x.2.name, .string x.2.attr, .int .u64 (hi x.2.val), .int .u64 (lo x.2.val)]]
set_option maxRecDepth 100000 in
set_option maxHeartbeats 2000000 in
theorem ev_back1_in (F : Fence) (n : Nat) (h7 : F.fn 73) (hro : F.round = none) (hn : 1 ≤ n) (l Bs n₀ b len cap : Nat) (A : Option Addr) (f : Nat → BindN) (hlen : len ≤ 100000) (hcap : len ≤ cap) (hA : 0 < len → A = some ⟨b, 0, none⟩ ∧ b < n₀) (J Jx : List (Nat × BindN) → World → Prop)
    (hY : ∀ pre x W, J pre W → pre.length < len → YieldAt F (n - 1) Tryd.prog l (bEnc x) W fun e W' =>
      (e = .returned (.bool true) ∧ J (pre ++ [x]) W' ∧ KpB n₀ Bs W W') ∨ (e = .returned (.bool false) ∧ Jx (pre ++ [x]) W'))
    (W : World) (hBs : W.cell? ⟨Bs, 0, none⟩ = some (.slice A len cap)) (hc : ∀ k, k < len → W.cell? ⟨b, k * 4, none⟩ = some (.string (f k).name) ∧ W.cell? ⟨b, k * 4 + 1, none⟩ = some (.string (f k).attr) ∧ W.cell? ⟨b, k * 4 + 2, none⟩ = some (.int .u64 (hi (f k).val)) ∧ W.cell? ⟨b, k * 4 + 3, none⟩ = some (.int .u64 (lo (f k).val))) (h0 : J [] W) :
    CallsIn F n Tryd.prog 73 #[.func (.yield l) #[] #[], .pointer (some ⟨Bs, 0, none⟩)] W fun e W' => (∃ v, e = .returned v) ∧
      ((∃ ys, ys = upF (fun j => (len - 1 - j, f (len - 1 - j))) len ∧ J ys W') ∨ (∃ pre, True ∧ Jx pre W')) := by
  refine callsIn_of_wp Tryd.func73 rfl h7 ?_ hro
  simp only [Tryd.ntmps73, List.size_toArray, List.length_cons, List.length_nil, Nat.reduceAdd, Nat.reduceSub, Array.replicate_succ, Array.replicate_zero, List.push_toArray, List.append_toArray, List.nil_append, List.cons_append]
  gi_wp2
  gi_loopw [3] (fun i wr => ∃ k : Nat, k ≤ len ∧ i = .int .i64 ((len : Int) - 1 - (k : Int)) ∧ J (upF (fun j => (len - 1 - j, f (len - 1 - j))) k) wr ∧ KpB n₀ Bs W wr)
    (fun i _ => (intOf i + 1).toNat)
  case atStart => exact ⟨0, Nat.zero_le _, by simp, h0, KpB.refl _ _ _⟩
  case round =>
    obtain ⟨k, hk, rfl, hJs, hnx⟩ := hrel
    have hBx := (hnx.cell 0).trans hBs
    by_cases hlt : k < len
    · obtain ⟨rfl, hb⟩ := hA (by omega)
      obtain ⟨i, hix⟩ : ∃ i, i = len - 1 - k := ⟨_, rfl⟩
      have hii : (len : Int) - 1 - (k : Int) = (i : Int) := by omega
      obtain ⟨c0, c1, c2, c3⟩ := hc i (by omega)
      rw [← hnx.1.cell (p := ⟨b, _, none⟩) hb] at c0 c1 c2 c3
      obtain ⟨fn, tmps, assign, body, hy, hR⟩ := hY _ (i, f i) wr hJs (by rw [upF_len]; exact hlt)
      dsimp only [bEnc] at hy
      have hic : (i : Int) < (cap : Int) := by omega
      have hil : (i : Int) < (len : Int) := by omega
      have hi0 : 0 ≤ (i : Int) := by omega
      rw [hii]
      have HI := Lib.hid hix
      clear hix hii
      gi_wp2
      refine hR.mono ?_
      rintro e W3 (⟨rfl, hJ3, hk3⟩ | ⟨rfl, hJx3⟩)
      · gi_wp2
        go_roundw
        case rel => exact ⟨k + 1, by omega, by (have := HI.out; first | (congr 1; omega) | (simp; omega)), by rw [upF_succ, ← HI.out]; exact hJ3, hnx.trans hk3⟩
        case measure => (have := HI.out; first | (simp [intOf]; done) | (simp [intOf]; omega))
      · gi_wp2
        refine bodyPost_ret (results_none rfl _ _ _) rfl ?_
        exact ⟨⟨_, rfl⟩, .inr ⟨_, trivial, hJx3⟩⟩
    · obtain rfl : k = len := by omega
      have hneg : ¬ (0 : Int) ≤ (k : Int) - 1 - (k : Int) := by omega
      gi_wp2
      go_end0
      first | exact ⟨⟨_, rfl⟩, .inl ⟨_, rfl, hJs⟩⟩ | exact ⟨⟨_, rfl⟩, .inl hJs⟩
set_option maxHeartbeats 1000000 in
theorem ev_back_in (F : Fence) (n : Nat) (h5 : F.fn 57) (hro : F.round = none) (a : Option Addr) (len cap : Nat) (w : World) :
    CallsIn F n Tryd.prog 57 #[.slice a len cap] w fun e w' => e = .returned (.func (.func 73) #[] #[.pointer (some ⟨w.heap.size, 0, none⟩)]) ∧ w' = w.alloc (.cells #[.slice a len cap] 91) := by
  refine callsIn_of_wp Tryd.func57 rfl h5 ?_ hro
  simp only [Tryd.ntmps57, List.size_toArray, List.length_cons, List.length_nil, Nat.reduceAdd, Nat.reduceSub, Array.replicate_succ, Array.replicate_zero, List.push_toArray, List.append_toArray, List.nil_append, List.cons_append]
  gi_wp2
  go_ret
  exact ⟨rfl, rfl⟩
theorem ev_back_stops (F : Fence) (n : Nat) (h7 : F.fn 73) (hro : F.round = none) (hn : 1 ≤ n) (Bs n₀ b len cap : Nat) (A : Option Addr) (f : Nat → BindN) (hlen : len ≤ 100000) (hcap : len ≤ cap) (hA : 0 < len → A = some ⟨b, 0, none⟩ ∧ b < n₀) (w : World) (hBsl : Bs < w.heap.size) (hn₀ : n₀ ≤ w.heap.size)
    (hBs : w.cell? ⟨Bs, 0, none⟩ = some (.slice A len cap)) (hc : ∀ k, k < len → w.cell? ⟨b, k * 4, none⟩ = some (.string (f k).name) ∧ w.cell? ⟨b, k * 4 + 1, none⟩ = some (.string (f k).attr) ∧ w.cell? ⟨b, k * 4 + 2, none⟩ = some (.int .u64 (hi (f k).val)) ∧ w.cell? ⟨b, k * 4 + 3, none⟩ = some (.int .u64 (lo (f k).val))) :
    SeqStopsK F n Tryd.prog 73 #[.pointer (some ⟨Bs, 0, none⟩)] bEnc (KpB n₀ Bs) (fun ys => ys = upF (fun j => (len - 1 - j, f (len - 1 - j))) len) (fun _ => True) len w := fun l J Jx W hW _ _ hY h0 => by
  refine ev_back1_in F n h7 hro hn l Bs n₀ b len cap A f hlen hcap hA J Jx hY W ((hW.cell (p := ⟨Bs, 0, none⟩) hBsl).trans hBs) (fun k hk => ?_) h0
  obtain ⟨_, hb⟩ := hA (by omega)
  rw [hW.cell (p := ⟨b, _, none⟩) (by show b < _; omega), hW.cell (p := ⟨b, _, none⟩) (by show b < _; omega), hW.cell (p := ⟨b, _, none⟩) (by show b < _; omega), hW.cell (p := ⟨b, _, none⟩) (by show b < _; omega)]
  exact hc k hk
/-- a value as a map's element -/
def vElem (v : Value) : Option (DataW Unit × List MemPlace) := match v with
  | .agg cs => match cs.toList with
    | [.int .u64 x, .int .u64 y] => some (.agg [.lit (.int .u64 x), .lit (.int .u64 y)], [])
    | _ => none
  | _ => none
theorem vElem_inv {v : Value} {x y : Int} {ps : List MemPlace} (h : vElem v = some (.agg [.lit (.int .u64 x), .lit (.int .u64 y)], ps)) : v = .agg #[.int .u64 x, .int .u64 y] := by
  unfold vElem at h
  split at h
  · rename_i cs
    split at h
    · rename_i x' y' hcs
      injection h with h
      injection h with h1 h2
      injection h1 with h1
      injection h1 with h3 h4
      injection h3 with h3
      injection h3 with _ h3
      injection h4 with h4 _
      injection h4 with h4
      injection h4 with _ h4
      subst h3 h4
      congr 1
      exact Array.toList_inj.1 hcs
    · cases h
  · cases h
def vD (v : Nat) : DataW Unit := .agg [.lit (.int .u64 (hi v)), .lit (.int .u64 (lo v))]
/-- a map that holds the values of bindings -/
def VlAt (w : World) (b n : Nat) (l : List BindN) : Prop := ∃ D : DataW Unit, w.ownsMap Tryd.prog 69 vElem b n D ∧ IsMap D ∧ ∀ a c k, keyOf Tryd.prog 69 (.agg #[.string a, .string c]) = some k → D.atKey k (vD 0) = vD (envB l a c)
theorem VlAt.below {w w' : World} {b n : Nat} {l : List BindN} (h : VlAt w b n l) (hb : Below w.heap.size w w') : VlAt w' b n l := by
  obtain ⟨D, h1, h2⟩ := h
  exact ⟨D, h1.kept (grown_of_below2 hb none) (by simp), h2⟩
set_option maxRecDepth 100000 in
theorem zeroVal (w : World) : (zeroValue 102).run Tryd.prog w = .ok (.agg #[.int .u64 0, .int .u64 0]) w := by kernel_rfl
set_option maxRecDepth 100000 in
theorem VlAt.lookup {w : World} {b n : Nat} {l : List BindN} (h : VlAt w b n l) (a c : ByteArray) (ha : a.size ≤ maxLen) (hc : c.size ≤ maxLen) : (Instr.lookup 132 (.map (some b)) (.agg #[.string a, .string c]) false).run Tryd.prog w = .ok (.agg #[.int .u64 (hi (envB l a c)), .int .u64 (lo (envB l a c))]) w := by
  obtain ⟨D, h1, _, h3⟩ := h
  obtain ⟨k, hk⟩ := keyVar a c ha hc
  obtain ⟨v, ps, hrun, hv⟩ := h1.lookup lawVar Tryd.underlying132 (zeroVal w) (zd := vD 0) (zp := []) rfl hk
  rw [h3 a c k hk] at hv
  rw [hrun, vElem_inv hv]
set_option maxRecDepth 100000 in
theorem VlAt.made (w : World) : VlAt (w.alloc (.map #[] 0)) w.heap.size 0 [] :=
  ⟨.map [], World.ownsMap_made _ _ _ _, isMap_empty, fun a c k _ => by simp [DataW.atKey, envB]⟩
set_option maxRecDepth 100000 in
theorem VlAt.put_of {w' : World} {b n : Nat} {l : List BindN} (x : BindN) {D : DataW Unit} (h2 : IsMap D) (h3 : ∀ a c k, keyOf Tryd.prog 69 (.agg #[.string a, .string c]) = some k → D.atKey k (vD 0) = vD (envB l a c)) {k : Lit} (hk : keyOf Tryd.prog 69 (.agg #[.string x.name, .string x.attr]) = some k) (h4 : w'.ownsMap Tryd.prog 69 vElem b (n + 1) (D.put k (vD x.val))) : VlAt w' b (n + 1) (x :: l) := by
  refine ⟨_, h4, h2.put _ _, fun a' c' k' hk' => ?_⟩
  by_cases e : k' = k
  · subst e
    have e2 := lawVar.inj hk hk'
    injection e2 with e2
    have e3 : x.name = a' ∧ x.attr = c' := by simpa using e2
    rw [atKey_put_same h2 (lawVar.key hk), envB, if_pos e3]
  · rw [atKey_put_other e, h3 a' c' k' hk', envB, if_neg]
    rintro ⟨rfl, rfl⟩
    rw [hk] at hk'
    exact e (Option.some.inj hk').symm
def RetVal (l : List BindN) (w : World) (e : Ending) (w' : World) : Prop := ∃ b m, e = .returned (.map (some b)) ∧ VlAt w' b m l ∧ Below w.heap.size w w'
theorem upF_back {n : Nat} {l : List BindN} {f : Nat → BindN} (hl : l.length = n) (hf : ∀ k, k < n → l[k]? = some (f k)) : ((upF (fun j => (n - 1 - j, f (n - 1 - j))) n).map (·.2)).reverse = l := by
  refine List.ext_getElem (by simp [upF, hl]) fun i h1 h2 => ?_
  have h3 := hf i (by omega)
  rw [List.getElem?_eq_getElem h2] at h3
  injection h3 with h3
  rw [h3, List.getElem_reverse]
  simp only [upF, List.length_map, List.length_range, List.getElem_map, List.getElem_range]
  congr 1
  omega
theorem bind_fun {n : Nat} {l : List BindN} (hl : l.length = n) : ∃ f : Nat → BindN, ∀ k, k < n → l[k]? = some (f k) := by
  refine ⟨fun k => l.getD k ⟨⟨#[]⟩, ⟨#[]⟩, 0, Nat.zero_le _, Nat.zero_le _, by decide⟩, fun k hk => ?_⟩
  show _ = some (l.getD k _)
  rw [List.getD_eq_getElem?_getD, List.getElem?_eq_getElem (by omega)]
  rfl
theorem BiR.all {w : World} {A : Option Addr} {l : List BindN} {n : Nat} (h : BiR w A l) (hl : l.length = n) {f : Nat → BindN} (hf : ∀ k, k < n → l[k]? = some (f k)) : ∃ b, (0 < n → A = some ⟨b, 0, none⟩ ∧ b < w.heap.size) ∧ ∀ k, k < n → w.cell? ⟨b, k * 4, none⟩ = some (.string (f k).name) ∧ w.cell? ⟨b, k * 4 + 1, none⟩ = some (.string (f k).attr) ∧ w.cell? ⟨b, k * 4 + 2, none⟩ = some (.int .u64 (hi (f k).val)) ∧ w.cell? ⟨b, k * 4 + 3, none⟩ = some (.int .u64 (lo (f k).val)) := by
  rcases h.r with h | ⟨g, h1, h2, h3⟩
  · rw [h] at hl
    exact ⟨0, fun hp => by simp at hl; omega, fun k hk => by simp at hl; omega⟩
  · exact ⟨g, fun _ => ⟨h1, h2⟩, fun k hk => h3 k _ (hf k hk)⟩
set_option maxRecDepth 100000 in
set_option maxHeartbeats 4000000 in
theorem ev_values (w : World) (A : Option Addr) (n c : Nat) (l : List BindN) (hl : l.length = n) (hc : n ≤ c) (hn4 : n ≤ 100000) (h : BiR w A l) :
    Calls Tryd.prog 37 #[.slice A n c] w (RetVal l w) := by
  refine (callsIn_wide (n := 5)).1 ?_
  have hmm := @run_makeMap Tryd.prog
  obtain ⟨f, hf⟩ := bind_fun hl
  obtain ⟨b, hA, hcl⟩ := h.all hl hf
  have HU := Lib.hid (upF_back hl hf)
  clear h hf hl
  refine callsIn_of_wp_marks Tryd.func37 rfl trivial ?_ rfl
  simp only [Tryd.ntmps37, List.size_toArray, List.length_cons, List.length_nil, Nat.reduceAdd, Nat.reduceSub, Array.replicate_succ, Array.replicate_zero, List.push_toArray, List.append_toArray, List.nil_append, List.cons_append]
  gi_wp2_with (refine ⟨trivial, ?_⟩; gi_at_call 57; refine (ev_back_in Fence.wide (5 - 1) trivial rfl _ _ _ _).mono ?_; rintro e w' ⟨rfl, rfl⟩)
  have bM := (Boxed.new (w.alloc (.map #[] 0)) 132 (.map (some w.heap.size))).alloc (.cells #[.slice A n c] 91)
  have bS := Boxed.new ((w.alloc (.map #[] 0)).alloc (.cells #[.map (some w.heap.size)] 132)) 91 (.slice A n c)
  simp only [World.size_alloc] at bM bS
  have hM0 : VlAt (((w.alloc (.map #[] 0)).alloc (.cells #[.map (some w.heap.size)] 132)).alloc (.cells #[.slice A n c] 91)) w.heap.size 0 [] := ((VlAt.made w).below ((Below.refl _ _).alloc (Nat.le_refl _) _)).below ((Below.refl _ _).alloc (Nat.le_refl _) _)
  have hB0 : Below w.heap.size w (((w.alloc (.map #[] 0)).alloc (.cells #[.map (some w.heap.size)] 132)).alloc (.cells #[.slice A n c] 91)) := (((Below.refl _ w).alloc (Nat.le_refl _) _).alloc (by simp) _).alloc (by simp; omega) _
  have hsz : (((w.alloc (.map #[] 0)).alloc (.cells #[.map (some w.heap.size)] 132)).alloc (.cells #[.slice A n c] 91)).heap.size = w.heap.size + 3 := by simp
  obtain ⟨W0, hW0⟩ : ∃ W0, ((w.alloc (.map #[] 0)).alloc (.cells #[.map (some w.heap.size)] 132)).alloc (.cells #[.slice A n c] 91) = W0 := ⟨_, rfl⟩
  rw [hW0] at bM bS hM0 hB0 hsz ⊢
  clear hW0 hmm
  refine wpIn_rangeFunc_ownH rfl (by decide) (gf := 73) (lb := #[.pointer (some ⟨w.heap.size + 1 + 1, 0, none⟩)]) rfl trivial (enters_of Tryd.func73 (by kernel_rfl) rfl)
    (ev_back_stops Fence.wide (5 - 1) trivial rfl (by decide) (w.heap.size + 1 + 1) w.heap.size b n c A f hn4 hc hA W0 (by omega) (by omega) bS.cell (fun k hk => by
      obtain ⟨_, hb⟩ := hA (by omega)
      rw [hB0.cell (p := ⟨b, _, none⟩) hb, hB0.cell (p := ⟨b, _, none⟩) hb, hB0.cell (p := ⟨b, _, none⟩) hb, hB0.cell (p := ⟨b, _, none⟩) hb]
      exact hcl k hk))
    KpB.trans (fun W l o o' hl h h1 h2 => ⟨belowK_b (w := W0) (by omega) W l o o' hl h h1 h2, (grownBy_putObj' W l o').block _ (by have := (Array.getElem?_eq_some_iff.1 h).1; omega) (fun e => by injection e with e; omega)⟩) (Below.refl _ _) (fun _ => rfl)
    (fun pre W => (Boxed W (w.heap.size + 1) 132 (.map (some w.heap.size)) ∧ VlAt W w.heap.size pre.length (pre.map (·.2)).reverse) ∧ (Below w.heap.size w W ∧ w.heap.size + 3 ≤ W.heap.size))
    (fun _ _ _ => False)
    (OwnFrom.and (OwnFrom.and (Own.from (boxed_own _ _ _) _) (fun s X Y row hs hg hr => by obtain ⟨D, h1, h2⟩ := hs; exact ⟨D, h1.kept hg (fun e => by have := (hr _ e.symm).1; omega), h2⟩)) (OwnFrom.and (ownFrom_below (Nat.le_refl _) (by omega)) (fun s X Y row hs hg hr => Nat.le_trans hs hg.size)))
    (fun _ _ _ _ _ hs _ _ => hs)
    ⟨⟨bM, hM0⟩, hB0, by omega⟩
    (fun x a' W => ∃ Bx, w.heap.size + 1 < Bx ∧ W.heap[Bx]? = some (.cells #[.string x.2.name, .string x.2.attr, .int .u64 (hi x.2.val), .int .u64 (lo x.2.val)] 130 (0, 0)) ∧ a' = { tmps := #[.slice A n c, undef, .map none, .pointer (some ⟨w.heap.size + 1, 0, none⟩), undef, .pointer (some ⟨Bx, 0, none⟩), .map (some w.heap.size), .slice A n c, .func (.func 73) #[] #[.pointer (some ⟨w.heap.size + 1 + 1, 0, none⟩)], .int .i64 (x.1 : Int), .agg #[.string x.2.name, .string x.2.attr, .int .u64 (hi x.2.val), .int .u64 (lo x.2.val)], undef, undef, undef, undef, undef, undef, undef, undef, undef], defers := [] })
    (fun x a' _ X Y row hs hg hr => by
      obtain ⟨Bx, h1, h2, h3⟩ := hs
      refine ⟨Bx, h1, (hg.block Bx (Array.getElem?_eq_some_iff.1 h2).1 (fun e => ?_)).trans h2, h3⟩
      obtain ⟨_, o, ho, hc⟩ := hr Bx e.symm
      rw [h2] at ho
      cases ho
      cases hc)
    ?assign ?body ?done ?stop
  case assign =>
    rintro l pre x W K ⟨⟨bM1, hV1⟩, hB1, hz1⟩ hK
    unfold bEnc
    gi_wp2
    exact hK _ _ ((KeepsOthers.alloc _ _).from _) ⟨(Below.refl _ W).alloc hB1.size _, (World.grownBy_alloc W _ none).block _ (by omega) (by simp)⟩ ⟨⟨bM1.alloc _, hV1.below ((Below.refl _ _).alloc (Nat.le_refl _) _)⟩, hB1.alloc hB1.size _, by simp; omega⟩ ⟨W.heap.size, bM1.lt, World.alloc_heap_new W _, rfl⟩
  case body =>
    rintro l pre x a' W hl hr ⟨⟨bM1, hV1⟩, hB1, hz1⟩ ⟨Bx, hBx, bX, rfl⟩ hlt
    have cM := bM1.cell
    have c0 : W.cell? ⟨Bx, 0, none⟩ = some (.string x.2.name) := by simp [World.cell?, bX]
    have c1 : W.cell? ⟨Bx, 1, none⟩ = some (.string x.2.attr) := by simp [World.cell?, bX]
    have c2 : W.cell? ⟨Bx, 2, none⟩ = some (.int .u64 (hi x.2.val)) := by simp [World.cell?, bX]
    have c3 : W.cell? ⟨Bx, 3, none⟩ = some (.int .u64 (lo x.2.val)) := by simp [World.cell?, bX]
    obtain ⟨D, hown, hIs, hAt⟩ := hV1
    obtain ⟨k, hk⟩ := keyVar x.2.name x.2.attr x.2.hn x.2.ha
    have hml : pre.length < maxLen := by unfold maxLen; omega
    gi_wp2_with (gi_at_mapUpdate; refine wpListIn_mapUpdate_own _ rfl _ _ _ 132 rfl 69 102 lawVar Tryd.underlying132 vElem w.heap.size pre.length _ rfl hown hml _ _ _ rfl rfl hk (vD x.2.val) [] rfl ?_; intro w1 hown1 hgrow1)
    exact ⟨KeepsFrom.of_grownBy hgrow1 (fun j e => by cases e; omega), ⟨(Below.refl _ W).grown hgrow1 hB1.size (fun k e => by cases e; exact Nat.le_refl _), hgrow1.block _ (by omega) (fun e => by injection e with e; omega)⟩, ⟨⟨bM1.kept hgrow1 (fun e => by injection e with e; omega), by rw [show (pre ++ [x]).length = pre.length + 1 by simp, show ((pre ++ [x]).map (·.2)).reverse = x.2 :: (pre.map (·.2)).reverse by simp]; exact VlAt.put_of x.2 hIs hAt hk hown1⟩, hB1.grown hgrow1 hB1.size (fun k e => by cases e; exact Nat.le_refl _), Nat.le_trans hz1 hgrow1.size⟩⟩
  case done =>
    rintro D ys W hD rfl ⟨⟨bM1, hV1⟩, hB1, hz1⟩ hK
    have cM := bM1.cell
    rw [HU.out] at hV1
    gi_wp2
    refine ⟨by simp, .inl ⟨_, _, rfl, run_takeDeferred hK, ?_⟩⟩
    obtain ⟨D2, h1, h2⟩ := hV1
    exact ⟨_, results_tmp rfl _ _ _, w.heap.size, _, rfl, ⟨D2, h1.kept (grownBy_putObj' _ D _) (fun e => by injection e with e; omega), h2⟩, hB1.trans (belowK_b (w := w) (Nat.le_refl _) W D _ _ (by omega) hK rfl rfl)⟩
  case stop =>
    rintro D c pre W _ _ h _
    exact h.elim
end
/- Layer 9: the program's meaningOf. -/
section
open Go.RowKit Go.Maps

/-- a node's box -/
structure MB (w : World) (op a b : Nat) (nm at_ : ByteArray) (u t : Int) (w' : World) : Prop where
  below : Below w.heap.size w w'
  size : w.heap.size < w'.heap.size
  c0 : w'.cell? ⟨w.heap.size, 0, none⟩ = some (.int .i64 op)
  c1 : w'.cell? ⟨w.heap.size, 1, none⟩ = some (.int .i64 a)
  c2 : w'.cell? ⟨w.heap.size, 2, none⟩ = some (.int .i64 b)
  c3 : w'.cell? ⟨w.heap.size, 3, none⟩ = some (.string nm)
  c4 : w'.cell? ⟨w.heap.size, 4, none⟩ = some (.string at_)
  c5 : w'.cell? ⟨w.heap.size, 5, none⟩ = some (.int .u64 u)
  c6 : w'.cell? ⟨w.heap.size, 6, none⟩ = some (.int .u64 t)
theorem MB.call {w : World} {op a b : Nat} {nm at_ : ByteArray} {u t : Int} {w1 w2 : World} (h : MB w op a b nm at_ u t w1) (hb : Below w1.heap.size w1 w2) : MB w op a b nm at_ u t w2 := by
  have e : ∀ j, w2.cell? ⟨w.heap.size, j, none⟩ = w1.cell? ⟨w.heap.size, j, none⟩ := fun j => hb.cell (p := ⟨w.heap.size, j, none⟩) h.size
  exact ⟨h.below.trans (hb.mono (Nat.le_of_lt h.size)), Nat.lt_of_lt_of_le h.size hb.size, (e 0).trans h.c0, (e 1).trans h.c1, (e 2).trans h.c2, (e 3).trans h.c3, (e 4).trans h.c4, (e 5).trans h.c5, (e 6).trans h.c6⟩
theorem MB.drew {w : World} {op a b : Nat} {nm at_ : ByteArray} {u t : Int} {w1 : World} (h : MB w op a b nm at_ u t w1) : MB w op a b nm at_ u t w1.drew := h.call (Below.refl _ _).drew
theorem MB.all {w : World} {op a b : Nat} {nm at_ : ByteArray} {u t : Int} {w1 : World} (h : MB w op a b nm at_ u t w1) : MB w op a b nm at_ u t w1 ∧ w1.cell? ⟨w.heap.size, 0, none⟩ = some (.int .i64 op) ∧ w1.cell? ⟨w.heap.size, 1, none⟩ = some (.int .i64 a) ∧ w1.cell? ⟨w.heap.size, 2, none⟩ = some (.int .i64 b) ∧ w1.cell? ⟨w.heap.size, 5, none⟩ = some (.int .u64 u) ∧ w1.cell? ⟨w.heap.size, 6, none⟩ = some (.int .u64 t) := ⟨h, h.c0, h.c1, h.c2, h.c5, h.c6⟩
theorem MB.new (w : World) (op a b : Nat) (nm at_ : ByteArray) (u t : Int) : MB w op a b nm at_ u t (w.alloc (.cells #[.int .i64 op, .int .i64 a, .int .i64 b, .string nm, .string at_, .int .u64 u, .int .u64 t] 105)) := by
  refine ⟨(Below.refl _ _).alloc (Nat.le_refl _) _, by simp, ?_, ?_, ?_, ?_, ?_, ?_, ?_⟩ <;> (rw [World.cell?_alloc_new]; rfl)
set_option maxRecDepth 100000 in
theorem eq_valI (a b c d : Int) (w : World) : (Op.equalIn 10000 102 (.agg #[.int .u64 a, .int .u64 b]) (.agg #[.int .u64 c, .int .u64 d])).run Tryd.prog w = .ok (decide (a = c) && decide (b = d)) w := by
  have hS : Tryd.prog.underlying 102 = some (.struct (Tryd.prog.fieldsOf 102)) := by kernel_rfl
  rw [show (10000 : Nat) = 9999 + 1 from rfl, run_equalIn_agg w 9999 102 _ _ hS (by kernel_rfl)]
  simp only [Program.fieldsOf, Tryd.underlying102]
  clear hS
  by_cases h1 : a = c
  · subst h1
    by_cases h2 : b = d
    · subst h2
      go_simp
    · rw [decide_eq_true rfl, decide_eq_false h2]
      go_simp
  · rw [decide_eq_false h1, Bool.false_and]
    go_simp
theorem val_one {v : Nat} (_hv : v < 340282366920938463463374607431768211456) : (decide (hi v = 0) && decide (lo v = 1)) = decide (v = 1) := by
  unfold hi lo
  by_cases h : v = 1
  · subst h; rfl
  · rw [decide_eq_false h]
    by_cases h1 : ((v / 18446744073709551616 : Nat) : Int) = 0
    · rw [Bool.and_eq_false_iff]; right; rw [decide_eq_false_iff_not]; omega
    · rw [Bool.and_eq_false_iff]; left; rw [decide_eq_false_iff_not]; omega
theorem nn_fromV (v : Nat) (hv : v < 340282366920938463463374607431768211456) (w : World) : Calls Tryd.prog 58 #[.agg #[.int .u64 (hi v), .int .u64 (lo v)]] w (RetN v w) := nn_from v hv w
theorem of_one (w : World) : Calls Tryd.prog 32 #[.int .u64 1] w (RetX (.agg #[.int .u64 0, .int .u64 1]) w) := of_any 1 (by decide) w
set_option maxRecDepth 100000 in
set_option maxHeartbeats 8000000 in
theorem ev_meaningOf (w : World) (op a b : Nat) (nm at_ : ByteArray) (val : Nat) (hv : val < 340282366920938463463374607431768211456) (hs1 : nm.size ≤ maxLen) (hs2 : at_.size ≤ maxLen) (mb mm : Nat) (bl : List BindN) (hm : VlAt w mb mm bl) (A : Option Addr) (n c : Nat) (l : List Mn) (hl : l.length = n) (hc : n ≤ c) (hr : MnR w A l) (hg : ∀ m ∈ l, RgM m) :
    Calls Tryd.prog 38 #[.agg #[.int .i64 op, .int .i64 a, .int .i64 b, .string nm, .string at_, .int .u64 (hi val), .int .u64 (lo val)], .map (some mb), .slice A n c] w (RetX (mV (ndM (envB bl) ⟨op, a, b, nm, at_, val⟩ l)) w) := by
  have HX : Hid (MB w op a b nm at_ (hi val) (lo val) (w.alloc (.cells #[.int .i64 op, .int .i64 a, .int .i64 b, .string nm, .string at_, .int .u64 (hi val), .int .u64 (lo val)] 105))) := Lib.hid (MB.new w op a b nm at_ _ _)
  by_cases h1 : op = 1
  · subst h1
    have e : ndM (envB bl) ⟨1, a, b, nm, at_, val⟩ l = .num val := rfl
    rw [e]
    unfold mV
    have K := Lib.hid (nn_fromV val hv)
    clear e hm hr hg hc hl hs1 hs2 hv HX
    go_enter Tryd.func38, Tryd.ntmps38
    go_wp2_with (go_at_call 58; refine (K.out _).mono ?_; rintro e w1 ⟨rfl, hb⟩)
    go_ret
    exact ⟨rfl, ((Below.refl _ _).alloc (by simp) _).trans (hb.mono (by simp))⟩
  have e1 : ((op : Int) == 1) = false := by rw [beq_eq_false_iff_ne]; omega
  have p1 : ¬ (op : Int) = 1 := by omega
  by_cases h2 : op = 2
  · subst h2
    have e : ndM (envB bl) ⟨2, a, b, nm, at_, val⟩ l = .tru (decide (val = 1)) := rfl
    rw [e, ← val_one hv]
    unfold mV
    have K := Lib.hid of_one
    have hq := fun W => eq_valI (hi val) (lo val) 0 1 W
    have hG : Tryd.prog.eqGuardType Tryd.prog.depth 102 = false := by kernel_rfl
    generalize hi val = vh at HX hq ⊢
    generalize lo val = vl at HX hq ⊢
    generalize (decide (vh = 0) && decide (vl = 1)) = eb at hq ⊢
    clear e hm hr hg hc hl hs1 hs2 hv e1 p1 h1
    go_enter Tryd.func38, Tryd.ntmps38
    go_upto_region 5 with fail
    generalize w.alloc (.cells #[.int .i64 ((2 : Nat) : Int), .int .i64 a, .int .i64 b, .string nm, .string at_, .int .u64 vh, .int .u64 vl] 105) = W at HX ⊢
    go_region_held3 (fun w' => MB w 2 a b nm at_ vh vl w' ∧ w'.cell? ⟨w.heap.size, 0, none⟩ = some (.int .i64 ((2 : Nat) : Int)) ∧ w'.cell? ⟨w.heap.size, 1, none⟩ = some (.int .i64 a) ∧ w'.cell? ⟨w.heap.size, 2, none⟩ = some (.int .i64 b) ∧ w'.cell? ⟨w.heap.size, 5, none⟩ = some (.int .u64 vh) ∧ w'.cell? ⟨w.heap.size, 6, none⟩ = some (.int .u64 vl))
      (first
        | exact (MB.drew HX.out).all
        | exact (MB.call (And.left (by assumption)) (by assumption)).all)
      ((go_at_call 32; (with_reducible refine (K.out _).mono ?_); (rintro e w2 ⟨rfl, hb2⟩)))
    all_goals
      try simp only [Exit.then]
      try apply_assumption
    all_goals
      have h3 : MB w 2 a b nm at_ vh vl w2 := And.left (by assumption)
      go_wp2
      go_ret
      exact ⟨rfl, h3.below⟩
  have e2 : ((op : Int) == 2) = false := by rw [beq_eq_false_iff_ne]; omega
  have p2 : ¬ (op : Int) = 2 := by omega
  by_cases h3 : op = 3
  · subst h3
    have e : ndM (envB bl) ⟨3, a, b, nm, at_, val⟩ l = .num (envB bl nm at_) := rfl
    rw [e]
    unfold mV
    have K := Lib.hid (nn_fromV (envB bl nm at_) (envB_lt bl nm at_))
    have hlk := (hm.below ((Below.refl _ w).alloc (Nat.le_refl _) (.cells #[.int .i64 3, .int .i64 a, .int .i64 b, .string nm, .string at_, .int .u64 (hi val), .int .u64 (lo val)] 105))).lookup nm at_ hs1 hs2
    generalize hi val = vh at hlk ⊢
    generalize lo val = vl at hlk ⊢
    generalize hi (envB bl nm at_) = eh at hlk K
    generalize lo (envB bl nm at_) = el at hlk K
    clear e hm hr hg hc hl hs1 hs2 hv e1 p1 e2 p2 h1 h2 HX
    go_enter Tryd.func38, Tryd.ntmps38
    go_wp2_with (go_at_call 58; refine (K.out _).mono ?_; rintro e w1 ⟨rfl, hb⟩)
    go_ret
    exact ⟨rfl, ((Below.refl _ _).alloc (by simp) _).trans (hb.mono (by simp))⟩
  have e3 : ((op : Int) == 3) = false := by rw [beq_eq_false_iff_ne]; omega
  have p3 : ¬ (op : Int) = 3 := by omega
  have e : ndM (envB bl) ⟨op, a, b, nm, at_, val⟩ l = opMn op (mnAt l a) (mnAt l b) := by
    unfold ndM
    rw [if_neg h1, if_neg h2, if_neg h3]
  rw [e]
  have hgA : ∀ i, RgM (mnAt l i) := fun i => by
    unfold mnAt
    cases hx : l[i]? with
    | none => exact fun z hz => by cases hz
    | some m => exact hg m (List.mem_of_getElem? hx)
  have K1 : Hid (∀ W, Below w.heap.size w W → Calls Tryd.prog 39 #[.slice A n c, .int .i64 a] W (RetX (mV (mnAt l a)) W)) := Lib.hid fun W hW => ev_at W A n c l hl hc (hr.below hW) a
  have K2 : Hid (∀ W, Below w.heap.size w W → Calls Tryd.prog 39 #[.slice A n c, .int .i64 b] W (RetX (mV (mnAt l b)) W)) := Lib.hid fun W hW => ev_at W A n c l hl hc (hr.below hW) b
  have K3 : Hid (∀ W, Calls Tryd.prog 59 #[.int .i64 op, mV (mnAt l a), mV (mnAt l b)] W (RetX (mV (opMn op (mnAt l a) (mnAt l b))) W)) := Lib.hid fun W => ev_operate op _ _ (hgA a) (hgA b) W
  generalize mV (opMn op (mnAt l a) (mnAt l b)) = R at K3 ⊢
  generalize mV (mnAt l a) = va at K1 K3
  generalize mV (mnAt l b) = vb at K2 K3
  generalize hi val = vh at HX ⊢
  generalize lo val = vl at HX ⊢
  clear e hgA hm hr hg hc hl hs1 hs2 hv h1 h2 h3
  go_enter Tryd.func38, Tryd.ntmps38
  go_upto_region 8 with fail
  generalize w.alloc (.cells #[.int .i64 op, .int .i64 a, .int .i64 b, .string nm, .string at_, .int .u64 vh, .int .u64 vl] 105) = W at HX ⊢
  go_region_held3 (fun w' => MB w op a b nm at_ vh vl w' ∧ w'.cell? ⟨w.heap.size, 0, none⟩ = some (.int .i64 op) ∧ w'.cell? ⟨w.heap.size, 1, none⟩ = some (.int .i64 a) ∧ w'.cell? ⟨w.heap.size, 2, none⟩ = some (.int .i64 b) ∧ w'.cell? ⟨w.heap.size, 5, none⟩ = some (.int .u64 vh) ∧ w'.cell? ⟨w.heap.size, 6, none⟩ = some (.int .u64 vl))
    (first
      | exact (MB.drew HX.out).all
      | exact (MB.call (And.left (by assumption)) (by assumption)).all)
    (first
      | (go_at_call 39; (first
        | ((with_reducible refine (K1.out _ (MB.below (And.left (by assumption)))).mono ?_); (rintro e w2 ⟨rfl, hb2⟩))
        | ((with_reducible refine (K2.out _ (MB.below (And.left (by assumption)))).mono ?_); (rintro e w3 ⟨rfl, hb3⟩))))
      | (go_at_call 59; ((with_reducible refine (K3.out _).mono ?_); (rintro e w4 ⟨rfl, hb4⟩))))
  all_goals
    try simp only [Exit.then]
    try apply_assumption
  all_goals
    have h3 : MB w op a b nm at_ vh vl w4 := And.left (by assumption)
    go_wp2
    go_ret
    exact ⟨rfl, h3.below⟩
end
/- Layer 9: the program's Holds. -/
section
open Go.RowKit Go.Maps

/-- a row of meanings of which the first k are there -/
def mvF (ms : List Mn) (k j : Nat) : Value := if j < k then (match ms[j]? with
  | some m => mV m
  | none => .nilIface) else .nilIface
theorem mvF_succ (ms : List Mn) (k : Nat) (m : Mn) (hm : ms[k]? = some m) (j : Nat) : (if j = k then mV m else mvF ms k j) = mvF ms (k + 1) j := by
  unfold mvF
  by_cases h : j = k
  · subst h
    rw [if_pos rfl, if_pos (by omega), hm]
  · rw [if_neg h]
    by_cases h1 : j < k
    · rw [if_pos h1, if_pos (by omega)]
    · rw [if_neg h1, if_neg (by omega)]
theorem mvF_row {w : World} {b n : Nat} {ms : List Mn} {k : Nat} (hk : k ≤ n) (h : w.rowIs b 136 n (mvF ms k)) : MnR w (some ⟨b, 0, none⟩) (ms.take k) := by
  refine ⟨.inr ⟨b, rfl, h.lt, fun i m hm => ?_⟩⟩
  have hik : i < k := by
    have := (List.getElem?_eq_some_iff.1 hm).1
    rw [List.length_take] at this
    omega
  rw [List.getElem?_take_of_lt hik] at hm
  rw [h.cell (i := i) (by omega)]
  unfold mvF
  rw [if_pos hik, hm]
/-- nodes that Holds can read -/
structure NdOk (x : Nd) : Prop where
  val : x.val < 340282366920938463463374607431768211456
  nm : x.name.size ≤ maxLen
  at_ : x.attr.size ≤ maxLen
theorem mV_shape (m : Mn) : ∃ u v, mV m = .iface u v := by
  cases m with
  | num z => exact ⟨_, _, rfl⟩
  | tru b => exact ⟨_, _, rfl⟩
set_option maxRecDepth 100000 in
set_option maxHeartbeats 8000000 in
theorem ev_Holds (w : World) (A : Option Addr) (n cap : Nat) (o : List Nd) (hn : o.length = n) (hn1 : 1 ≤ n) (_hc : n ≤ cap) (hn4 : n ≤ 400) (h : NodR w A o) (hok : ∀ x ∈ o, NdOk x) (A2 : Option Addr) (n2 c2 : Nat) (bl : List BindN) (hl2 : bl.length = n2) (hc2 : n2 ≤ c2) (hn24 : n2 ≤ 100000) (h2 : BiR w A2 bl) (hrg : EnvRg (mns (envB bl) o)) :
    Calls Tryd.prog 29 #[.slice A n cap, .slice A2 n2 c2] w (RetX (.bool (hldN (envB bl) o)) w) := by
  obtain ⟨ms, hms⟩ : ∃ ms, ms = mns (envB bl) o := ⟨_, rfl⟩
  have hml : ms.length = n := by rw [hms, mns_len, hn]
  have hR : hldN (envB bl) o = (mnAt ms (n - 1)).bool := by unfold hldN; rw [← hms, hn]
  rw [hR]
  rw [← hms] at hrg
  obtain ⟨rb, hrb⟩ : ∃ r, r = (mnAt ms (n - 1)).bool := ⟨_, rfl⟩
  rw [← hrb]
  have HRB := Lib.hid hrb
  have hRG : ∀ m ∈ ms, RgM m := fun m hm => bnd_rgM (hrg m hm)
  have HRG := Lib.hid hRG
  have hMs : ∀ (k : Nat) (d : Nd), o[k]? = some d → ms[k]? = some (ndM (envB bl) d (ms.take k)) := fun k d hd => by rw [hms]; exact mns_at _ o k d hd
  have HMS := Lib.hid hMs
  have HML := Lib.hid hml
  have KV := Lib.hid (ev_values w A2 n2 c2 bl hl2 hc2 hn24 h2)
  have HN := Lib.hid hn
  have H := Lib.hid h
  have HOK := Lib.hid hok
  clear hrb hR hrg hRG hMs hml hms hl2 hc2 hn24 h2 hn h hok
  go_enter Tryd.func29, Tryd.ntmps29
  go_wp2_with fail
  go_at_call 37
  refine KV.out.mono ?_
  rintro e w1 ⟨mb, mm, rfl, hv1, hb1⟩
  have HV1 := Lib.hid hv1
  have HB1 := Lib.hid hb1
  have H1 := Lib.hid (H.out.below hb1)
  clear hv1 hb1 KV H
  have hmk : ∀ W : World, (Instr.makeSlice 134 (.int .i64 (n : Int)) (.int .i64 (n : Int))).run Tryd.prog W = .ok (.slice (some ⟨W.heap.size, 0, none⟩) n n) (W.alloc (.cells (madeCells #[.nilIface] n) 136)) := fun W => by
    exact run_make_row' (P := Tryd.prog) 134 136 (.nilIface) 16 Tryd.underlying134 (by kernel_rfl) rfl .i64 .i64 n (by omega) (by omega) W
  have hRow : (w1.alloc (.cells (madeCells #[.nilIface] n) 136)).rowIs w1.heap.size 136 n (fun _ => .nilIface) := World.rowIs_made w1 .nilIface n 136
  have HRow : Hid ((w1.alloc (.cells (madeCells #[.nilIface] n) 136)).rowIs w1.heap.size 136 n (mvF ms 0)) := Lib.hid (hRow.congr fun j _ => by unfold mvF; rw [if_neg (by omega)])
  have HB0 : Hid (Below w1.heap.size w1 (w1.alloc (.cells (madeCells #[.nilIface] n) 136))) := Lib.hid ((Below.refl _ _).alloc (Nat.le_refl _) _)
  have hb7 : w1.heap.size < (w1.alloc (.cells (madeCells #[.nilIface] n) 136)).heap.size := by simp
  clear hRow
  obtain ⟨Mk, hMk⟩ : ∃ M, M = madeCells #[.nilIface] n := ⟨_, rfl⟩
  rw [← hMk] at HRow HB0 hb7
  rw [← hMk] at hmk
  clear hMk
  go_upto_region 3 with (fail)
  clear hmk
  obtain ⟨b, hb⟩ : ∃ b, b = w1.heap.size := ⟨_, rfl⟩
  rw [← hb] at HRow HB0 hb7 ⊢
  have HBB := Lib.hid hb
  generalize w1.alloc (.cells Mk 136) = W0 at HRow HB0 hb7 ⊢
  clear hb
  go_wp2_with fail
  go_loopw [18] (fun i w' => ∃ k : Nat, k ≤ n ∧ i = .int .i64 k ∧ Below b w1 w' ∧ b < w'.heap.size ∧ w'.rowIs b 136 n (mvF ms k)) (fun i _ => n - (intOf i).toNat)
  case atStart => exact ⟨0, by omega, rfl, HB0.out, hb7, HRow.out⟩
  case round =>
    clear HRow HB0 hb7
    obtain ⟨k, hk, rfl, hB, hbs, hrow⟩ := hrel
    have HB := Lib.hid hB
    have HROW := Lib.hid hrow
    clear hB hrow
    by_cases hkn : k < n
    · have hkI : (k : Int) < (n : Int) := by omega
      have hkl : k < o.length := by rw [HN.out]; exact hkn
      have r1 := H1.out.below (by rw [← HBB.out]; exact HB.out)
      obtain ⟨g, e1, l1, q0, q1, q2, q3, q4, q5, q6⟩ := nod_cells r1 hkl
      subst e1
      have hd := HOK.out _ (List.getElem_mem hkl)
      have hm := HMS.out k _ (List.getElem?_eq_getElem hkl)
      generalize (o[k]'hkl) = d at q0 q1 q2 q3 q4 q5 q6 hd hm
      obtain ⟨x0, hx0⟩ : ∃ x : Nat, x = d.op := ⟨_, rfl⟩
      obtain ⟨x1, hx1⟩ : ∃ x : Nat, x = d.a := ⟨_, rfl⟩
      obtain ⟨x2, hx2⟩ : ∃ x : Nat, x = d.b := ⟨_, rfl⟩
      obtain ⟨x3, hx3⟩ : ∃ x, x = d.name := ⟨_, rfl⟩
      obtain ⟨x4, hx4⟩ : ∃ x, x = d.attr := ⟨_, rfl⟩
      obtain ⟨x5, hx5⟩ : ∃ x : Int, x = hi d.val := ⟨_, rfl⟩
      obtain ⟨x6, hx6⟩ : ∃ x : Int, x = lo d.val := ⟨_, rfl⟩
      have hsucc := mvF_succ ms k _ hm
      obtain ⟨v, hv⟩ : ∃ v, v = mV (ndM (envB bl) d (ms.take k)) := ⟨_, rfl⟩
      obtain ⟨vu, vv, hvs⟩ := mV_shape (ndM (envB bl) d (ms.take k))
      rw [← hv] at hsucc hvs
      have KD : Hid (∀ W : World, Below b w1 W → W.rowIs b 136 n (mvF ms k) → Calls Tryd.prog 38 #[.agg #[.int .i64 (x0 : Nat), .int .i64 (x1 : Nat), .int .i64 (x2 : Nat), .string x3, .string x4, .int .u64 x5, .int .u64 x6], .map (some mb), .slice (some ⟨b, 0, none⟩) k n] W (RetX (.iface vu vv) W)) := Lib.hid fun W hW1 hW => by
        rw [hx0, hx1, hx2, hx3, hx4, hx5, hx6, ← hvs, hv]
        exact ev_meaningOf W d.op d.a d.b d.name d.attr d.val hd.val hd.nm hd.at_ mb mm bl (HV1.out.below (by rw [← HBB.out]; exact hW1)) (some ⟨b, 0, none⟩) k n (ms.take k) (by rw [List.length_take, HML.out]; omega) hk (mvF_row hk hW) (fun m hm => HRG.out m (List.mem_of_mem_take hm))
      rw [hvs] at hsucc
      rw [← hx0] at q0
      rw [← hx1] at q1
      rw [← hx2] at q2
      rw [← hx3] at q3
      rw [← hx4] at q4
      rw [← hx5] at q5
      rw [← hx6] at q6
      have HS := Lib.hid hsucc
      clear hsucc hv hvs hx0 hx1 hx2 hx3 hx4 hx5 hx6 r1 hd hm
      have w0 : (wr.alloc (.cells #[.int .i64 (x0 : Nat), .int .i64 (x1 : Nat), .int .i64 (x2 : Nat), .string x3, .string x4, .int .u64 x5, .int .u64 x6] 105)).rowIs b 136 n (mvF ms k) := HROW.out.alloc _
      have HB2 := Lib.hid (HB.out.alloc (by omega) (.cells #[.int .i64 (x0 : Nat), .int .i64 (x1 : Nat), .int .i64 (x2 : Nat), .string x3, .string x4, .int .u64 x5, .int .u64 x6] 105))
      have hc : ∀ i, (wr.alloc (.cells #[.int .i64 (x0 : Nat), .int .i64 (x1 : Nat), .int .i64 (x2 : Nat), .string x3, .string x4, .int .u64 x5, .int .u64 x6] 105)).cell? ⟨wr.heap.size, i, none⟩ = #[Value.int .i64 (x0 : Nat), .int .i64 (x1 : Nat), .int .i64 (x2 : Nat), .string x3, .string x4, .int .u64 x5, .int .u64 x6][i]? := fun i => World.cell?_alloc_new ..
      have c0 := hc 0
      have c1 := hc 1
      have c2 := hc 2
      have c3 := hc 3
      have c4 := hc 4
      have c5 := hc 5
      have c6 := hc 6
      simp only [List.getElem?_toArray, List.getElem?_cons_zero, List.getElem?_cons_succ] at c0 c1 c2 c3 c4 c5 c6
      have hbs2 : b < (wr.alloc (.cells #[.int .i64 (x0 : Nat), .int .i64 (x1 : Nat), .int .i64 (x2 : Nat), .string x3, .string x4, .int .u64 x5, .int .u64 x6] 105)).heap.size := by simp; omega
      have HROW2 := Lib.hid w0
      clear hc w0 HB HROW hbs
      go_upto_region 6 with (fail)
      generalize wr.alloc (.cells #[.int .i64 (x0 : Nat), .int .i64 (x1 : Nat), .int .i64 (x2 : Nat), .string x3, .string x4, .int .u64 x5, .int .u64 x6] 105) = WB at c0 c1 c2 c3 c4 c5 c6 HROW2 HB2 hbs2 ⊢
      generalize wr.heap.size = bx at c0 c1 c2 c3 c4 c5 c6 ⊢
      clear q0 q1 q2 q3 q4 q5 q6
      go_region_with (go_at_call 38; (with_reducible refine (KD.out WB.drew HB2.out.drew HROW2.out.drew).mono ?_); (rintro e w2 ⟨rfl, hb2⟩; have HX2 := Lib.hid hb2; have HR2 := Lib.hid (HROW2.out.drew.of_block (hb2.block b (by exact hbs2))); have f2 := HR2.out.frozen k; have k2 := HR2.out.cell (i := k) hkn; clear hb2))
      all_goals
        have HF : Hid ((w2.setCell ⟨b, k, none⟩ (.iface vu vv)).rowIs b 136 n (mvF ms (k + 1))) := Lib.hid ((HR2.out.set k (.iface vu vv)).congr fun j _ => by
          rw [← HS.out j])
        have HG : Hid (Below b w1 (w2.setCell ⟨b, k, none⟩ (.iface vu vv))) := Lib.hid ((HB2.out.drew.trans (HX2.out.mono (by have := hbs2; exact Nat.le_of_lt this))).setCell (p := ⟨b, k, none⟩) (Nat.le_refl _) _)
        have hgs := HF.out.lt
        clear HR2 HX2 HB2 HROW2 k2 f2
        generalize w2.setCell ⟨b, k, none⟩ (.iface vu vv) = WC at HF HG hgs ⊢
        go_wp2_with fail
        go_roundw
        case rel => (go_light; exact ⟨k + 1, by omega, by simp, HG.out, hgs, HF.out⟩)
        case measure => simp [intOf]; omega
    · have hkI : ¬ (k : Int) < (n : Int) := by omega
      obtain rfl : n = k := by omega
      have hR : MnR wr (some ⟨b, 0, none⟩) ms := by
        have := mvF_row (Nat.le_refl n) HROW.out
        rwa [List.take_of_length_le (by rw [HML.out]; exact Nat.le_refl n)] at this
      obtain ⟨m, hm1⟩ : ∃ m, n = m + 1 := ⟨n - 1, by omega⟩
      have hsub : (n : Int) - 1 = (m : Int) := by omega
      have HKA := Lib.hid (ev_at wr (some ⟨b, 0, none⟩) n n ms HML.out (Nat.le_refl _) hR m)
      have hrb : rb = (mnAt ms m).bool := by rw [HRB.out, show n - 1 = m by omega]
      have HBW : Hid (Below w.heap.size w wr) := Lib.hid (HB1.out.trans (HB.out.mono (by have := HB1.out.size; have := HBB.out; omega)))
      have q3 := as_it
      have q4 := as_tt
      clear hR HROW hm1
      generalize mnAt ms m = r at HKA hrb
      cases r with
      | num z =>
        unfold mV at HKA
        unfold Mn.bool at hrb
        subst hrb
        generalize (Value.agg #[.int .u32 (wd z 0), .int .u32 (wd z 1), .int .u32 (wd z 2), .int .u32 (wd z 3), .int .u32 (wd z 4), .int .u32 (wd z 5)]) = zz at HKA
        go_wp2_with fail
        go_at_call 39
        refine HKA.out.mono ?_
        rintro e w2 ⟨rfl, hb2⟩
        have HB3 := Lib.hid (HBW.out.trans (hb2.mono HBW.out.size))
        clear hb2
        go_wp2_with fail
        go_ret
        exact ⟨rfl, HB3.out⟩
      | tru bb =>
        unfold mV at HKA
        unfold Mn.bool at hrb
        subst hrb
        go_wp2_with fail
        go_at_call 39
        refine HKA.out.mono ?_
        rintro e w2 ⟨rfl, hb2⟩
        have HB3 := Lib.hid (HBW.out.trans (hb2.mono HBW.out.size))
        clear hb2
        go_wp2_with fail
        go_ret
        exact ⟨rfl, HB3.out⟩
end
end Go.Proofs.YtodmkmoglchoeaaDoor
