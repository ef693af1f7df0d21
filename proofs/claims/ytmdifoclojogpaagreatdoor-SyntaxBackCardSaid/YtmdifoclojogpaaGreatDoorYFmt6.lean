/- Layer 7: the program's Format. -/
import Derived.Test.YtmdifoclojogpaaGreatDoorYFmt5
namespace Go.Proofs.YtmdifoclojogpaaGreatDoor
open Go.RowKit

theorem fmt_names {l : List Tok} (hT : TokOk l) : ∀ x ∈ (parse l).1, x.name.size ≤ 100000 ∧ x.attr.size ≤ 100000 := by
  have h := pR_inv l (fun x => x.name.size ≤ 100000 ∧ x.attr.size ≤ 100000) (fun _ _ _ => ⟨by show 0 ≤ _; omega, by show 0 ≤ _; omega⟩) ⟨by show 0 ≤ _; omega, by show 0 ≤ _; omega⟩ ⟨by show 0 ≤ _; omega, by show 0 ≤ _; omega⟩
    (fun t ht _ _ _ => ⟨by have := hT.sz t ht; show t.text.size ≤ _; omega, by show 0 ≤ _; omega⟩) (fun t ht u hu _ _ _ _ => ⟨by have := hT.sz t ht; show t.text.size ≤ _; omega, by have := hT.sz u hu; show u.text.size ≤ _; omega⟩) (fun o a b _ => ⟨by show 0 ≤ _; omega, by show 0 ≤ _; omega⟩) _ _ _ _ (pRun_some l) (fun x hx => by cases hx)
  intro x hx
  unfold parse at hx
  split at hx
  · cases hx
  · split at hx
    · cases hx
    · exact h x hx
def NmB (o : List Nd) : Prop := ∀ x ∈ o, x.name.size ≤ 100000 ∧ x.attr.size ≤ 100000
theorem pTree_names (s : ByteArray) (h : pOk s = true) : NmB (pTree s) := by
  unfold pOk at h
  rw [Bool.and_eq_true, decide_eq_true_iff, decide_eq_true_iff] at h
  unfold pTree
  rw [if_pos h.1]
  exact fmt_names (scan_tokOk s h.1)
/-- the tree t stands in o, its first node at k -/
def Sub (o : List Nd) (t : Tr) (k : Nat) : Prop := ∃ pre post, o = pre ++ t.flat k ++ post ∧ pre.length = k
theorem sub_leaf {o : List Nd} {n : Nd} {k : Nat} (h : Sub o (.leaf n) k) : o[k]? = some n := by
  obtain ⟨pre, post, rfl, rfl⟩ := h
  simp [Tr.flat]
theorem sub_un {o : List Nd} {p : Nat} {t : Tr} {k : Nat} (h : Sub o (.un p t) k) : Sub o t k ∧ o[k + t.size]? = some (nd p (k + t.size - 1) 0) := by
  obtain ⟨pre, post, rfl, rfl⟩ := h
  refine ⟨⟨pre, nd p (pre.length + t.size - 1) 0 :: post, by simp [Tr.flat, List.append_assoc], rfl⟩, ?_⟩
  have e : pre ++ (Tr.un p t).flat pre.length ++ post = (pre ++ t.flat pre.length) ++ (nd p (pre.length + t.size - 1) 0 :: post) := by simp [Tr.flat, List.append_assoc]
  have hl : (pre ++ t.flat pre.length).length = pre.length + t.size := by rw [List.length_append, t.flat_len]
  rw [e, List.getElem?_append_right (by rw [hl]; exact Nat.le_refl _), hl, Nat.sub_self]; rfl
theorem sub_bin {o : List Nd} {p : Nat} {t u : Tr} {k : Nat} (h : Sub o (.bin p t u) k) : Sub o t k ∧ Sub o u (k + t.size) ∧ o[k + t.size + u.size]? = some (nd p (k + t.size - 1) (k + t.size + u.size - 1)) := by
  obtain ⟨pre, post, rfl, rfl⟩ := h
  have hl : (pre ++ t.flat pre.length).length = pre.length + t.size := by rw [List.length_append, t.flat_len]
  have hl2 : (pre ++ t.flat pre.length ++ u.flat (pre.length + t.size)).length = pre.length + t.size + u.size := by rw [List.length_append, hl, u.flat_len]
  refine ⟨⟨pre, u.flat (pre.length + t.size) ++ (nd p (pre.length + t.size - 1) (pre.length + t.size + u.size - 1) :: post), by simp [Tr.flat, List.append_assoc], rfl⟩, ⟨pre ++ t.flat pre.length, nd p (pre.length + t.size - 1) (pre.length + t.size + u.size - 1) :: post, by simp [Tr.flat, List.append_assoc], hl⟩, ?_⟩
  have e : pre ++ (Tr.bin p t u).flat pre.length ++ post = (pre ++ t.flat pre.length ++ u.flat (pre.length + t.size)) ++ (nd p (pre.length + t.size - 1) (pre.length + t.size + u.size - 1) :: post) := by simp [Tr.flat, List.append_assoc]
  rw [e, List.getElem?_append_right (by rw [hl2]; exact Nat.le_refl _), hl2, Nat.sub_self]; rfl
theorem sub_whole (t : Tr) : Sub (t.flat 0) t 0 := ⟨[], [], by simp, rfl⟩
theorem itx_un (p : Nat) (t : Tr) : itx (emK (.un p t)) = bl (sy p) ++ (40 :: (itx (emK t) ++ [41])) := by
  show itx (some (3, sy p) :: some (3, syOpen) :: (emK t ++ [some (3, syClose)])) = _
  simp only [itx, List.flatMap_cons, List.flatMap_append, List.flatMap_nil, itB]
  rfl
theorem itx_bin (p : Nat) (t u : Tr) : itx (emK (.bin p t u)) = (40 :: (itx (emK t) ++ [41])) ++ (bl (mid p) ++ (40 :: (itx (emK u) ++ [41]))) := by
  show itx (some (3, syOpen) :: (emK t ++ (some (3, syClose) :: none :: some (3, sy p) :: none :: some (3, syOpen) :: (emK u ++ [some (3, syClose)])))) = _
  unfold mid
  rw [bl_app, bl_app]
  simp only [itx, List.flatMap_cons, List.flatMap_append, List.flatMap_nil, itB]
  show [40] ++ (_ ++ ([41] ++ ([32] ++ (bl (sy p) ++ ([32] ++ ([40] ++ (_ ++ ([41] ++ [])))))))) = [40] ++ (_ ++ [41]) ++ ([32] ++ bl (sy p) ++ [32] ++ ([40] ++ (_ ++ [41])))
  simp [List.append_assoc]
theorem lfB_size {n : Nd} (h : LeafOk n) (hz : n.name.size ≤ 100000 ∧ n.attr.size ≤ 100000) : (lfB n).size ≤ 300000 := by
  unfold lfB
  rcases h.is with ⟨e, _, _, hv⟩ | ⟨e, _, _, hv⟩ | ⟨e, _⟩
  · rw [if_pos e, dtx_size]
    have := dg_len 38 n.val (Nat.lt_trans hv (by decide))
    omega
  · rw [if_neg (by omega), if_pos e]
    split <;> decide
  · rw [if_neg (by omega), if_neg (by omega)]
    split
    · omega
    · have : syOf.size = 2 := rfl
      simp only [ByteArray.size_append]; omega
def Tr.Nm : Tr → Prop
  | .leaf n => n.name.size ≤ 100000 ∧ n.attr.size ≤ 100000
  | .un _ t => t.Nm
  | .bin _ t u => t.Nm ∧ u.Nm
theorem Tr.nm (t : Tr) : ∀ k, NmB (t.flat k) → t.Nm := by
  induction t with
  | leaf n => intro k h; exact h n (by simp [Tr.flat])
  | un p t ih => intro k h; exact ih k (fun x hx => h x (by simp [Tr.flat, hx]))
  | bin p t u ih1 ih2 => intro k h; exact ⟨ih1 k (fun x hx => h x (by simp [Tr.flat, hx])), ih2 (k + t.size) (fun x hx => h x (by simp [Tr.flat, hx]))⟩
theorem emK_len (t : Tr) : t.Ok → t.Nm → (itx (emK t)).length ≤ t.size * 400000 := by
  induction t with
  | leaf n =>
    intro h hz
    have := lfB_size h hz
    show (itx (lfK n)).length ≤ _
    rw [← lfB_bl, bl_len]
    show _ ≤ 1 * 400000
    omega
  | un p t ih =>
    intro h hz
    have h1 := ih h.2 hz
    have hs : (sy p).size ≤ 100 := by rcases h.1 with rfl | rfl <;> decide
    rw [itx_un, List.length_append, bl_len]
    simp only [List.length_cons, List.length_append, List.length_nil, Tr.size]
    omega
  | bin p t u ih1 ih2 =>
    intro h hz
    obtain ⟨h6, h16, ht, hu⟩ := h
    have h1 := ih1 ht hz.1
    have h2 := ih2 hu hz.2
    have hs := mid_size p h16
    rw [itx_bin, List.length_append, List.length_append, bl_len]
    simp only [List.length_cons, List.length_append, List.length_nil, Tr.size]
    omega
theorem fy_tree {B b len cap : Nat} {A : Option Addr} {o : List Nd} (t : Tr) : t.Ok → t.Nm → ∀ k, Sub o t k → FmtC B b len cap A o (k + t.size - 1) t.size (itx (emK t)) := by
  induction t with
  | leaf n =>
    intro h hz k hk
    have := fy_node_leaf (B := B) (b := b) (len := len) (cap := cap) (A := A) (sub_leaf hk) h hz (by have := lfB_size h hz; omega)
    rw [lfB_bl] at this
    exact this
  | un p t ih =>
    intro h hz k hk
    obtain ⟨k1, k2⟩ := sub_un hk
    have := fy_node_un (B := B) (b := b) (len := len) (cap := cap) (A := A) k2 h.1 (fy_operand (ih h.2 hz k k1))
    rw [itx_un]
    exact this
  | bin p t u ih1 ih2 =>
    intro h hz k hk
    obtain ⟨h6, h16, ht, hu⟩ := h
    obtain ⟨k1, k2, k3⟩ := sub_bin hk
    have := fy_node_bin (B := B) (b := b) (len := len) (cap := cap) (A := A) k3 h6 h16 (fy_operand (ih1 ht hz.1 k k1)) (fy_operand (ih2 hu hz.2 (k + t.size) k2))
    rw [itx_bin]
    rw [show k + (Tr.bin p t u).size - 1 = k + t.size + u.size by simp [Tr.size]; omega]
    exact this
set_option maxRecDepth 100000 in
set_option maxHeartbeats 4000000 in
theorem fy_Format (w : World) (A : Option Addr) (m cap : Nat) (t : Tr) (ht : t.Ok) (hnm : t.Nm) (hm : t.size = m) (hm4 : m ≤ 120) (hnd : NodR w A (t.flat 0)) (hy : SymY w) :
    Calls Tryz.prog 11 #[.slice A m cap] w (RetX (.string (fmtT t)) w) := by
  have hp := t.pos
  have KN : Hid (∀ (W : World) (left : Nat) (s : List UInt8), WrAt w.heap.size w.heap.size A m cap (t.flat 0) left s W → t.size ≤ left → left ≤ 1000 → s.length + (itx (emK t)).length ≤ 90000000 → Calls Tryz.prog 35 #[.pointer (some ⟨w.heap.size, 0, none⟩), .int .i64 ((m : Int) - 1)] W (RetW w.heap.size w.heap.size m cap A (t.flat 0) (left - t.size) (s ++ itx (emK t)) (.tuple #[]) W)) := Lib.hid (by
    have := fy_tree (B := w.heap.size) (b := w.heap.size) (len := m) (cap := cap) (A := A) t ht hnm 0 (sub_whole t)
    unfold FmtC at this
    rw [show ((0 + t.size - 1 : Nat) : Int) = (m : Int) - 1 by omega] at this
    exact this)
  have HL := Lib.hid (emK_len t ht hnm)
  have i1 : ¬ (m : Int) > 120 := by omega
  have i2 : ¬ (120 : Int) < (m : Int) := by omega
  have hB0 : Below w.heap.size w (w.alloc (.cells #[.slice A m cap, .int .i64 (m : Nat), .pointer none, .slice none 0 0] 100)) := (Below.refl _ _).alloc (Nat.le_refl _) _
  have HB0 := Lib.hid hB0
  have hcell : ∀ i, (w.alloc (.cells #[.slice A m cap, .int .i64 (m : Nat), .pointer none, .slice none 0 0] 100)).cell? ⟨w.heap.size, i, none⟩ = (#[.slice A m cap, .int .i64 (m : Nat), .pointer none, .slice none 0 0] : Array Value)[i]? := fun i => World.cell?_alloc_new ..
  have HW0 : Hid (WrAt w.heap.size w.heap.size A m cap (t.flat 0) m [] (w.alloc (.cells #[.slice A m cap, .int .i64 (m : Nat), .pointer none, .slice none 0 0] 100))) := Lib.hid ⟨hy.lt, by rw [t.flat_len]; exact hm, .inl ⟨Nat.le_refl _, by unfold World.shape?; rw [heap_alloc_new]; rfl, by decide, hcell 2, ⟨none, 0, hcell 3, World.ownsRow_nil _ _ _ _, by simp [Value.ownBlock], fun _ => ⟨rfl, rfl⟩⟩, fun i => World.frozen?_alloc_new ..⟩, hcell 0, hcell 1, hy.below hB0 hy.lt, by
    obtain ⟨g, e, hg, q⟩ := hnd.r.resolve_left (fun e => by have := congrArg List.length e; rw [t.flat_len] at this; simp at this; omega)
    exact ⟨g, e, hg, fun k hk j hj => by rw [hB0.cell (p := ⟨g, _, none⟩) hg]; exact q k hk j hj⟩⟩
  have HM := Lib.hid hm
  have HE : Hid (fmtT t = ⟨([] ++ itx (emK t)).toArray⟩) := Lib.hid rfl
  rw [HE.out]
  clear hB0 hcell hnd hy ht hnm hm HE
  go_enter Tryz.func11, Tryz.ntmps11
  go_wp2_with fail
  go_at_call 35
  refine (KN.out _ m [] HW0.out (by have := HM.out; omega) (by omega) (by have := HL.out; have := HM.out; simp; omega)).mono ?_
  rintro e w2 ⟨rfl, h2, k2⟩
  have H2 := Lib.hid h2
  have HK2 := Lib.hid k2.below
  clear h2 k2
  go_wp2_with fail
  go_at_call 36
  refine (b_text H2.out.bd (by have := HL.out; have := HM.out; simp; omega)).mono ?_
  rintro e w3 ⟨rfl, hb3⟩
  have HB3 := Lib.hid ((HB0.out.trans HK2.out).trans hb3)
  clear hb3
  go_wp2_with fail
  go_ret
  exact ⟨rfl, HB3.out⟩
end Go.Proofs.YtmdifoclojogpaaGreatDoor
