/- Contracts, joined: ERefH, ERefT. -/
import Derived.Test.YtodmkmoglchoeaaDoorERefP
import Derived.Test.YtodmkmoglchoeaaDoorEHold
import Derived.Test.YtodmkmoglchoeaaDoorJNRef
import Derived.Test.YtodmkmoglchoeaaDoorJYLaw
import Derived.Test.YtodmkmoglchoeaaDoorNBegun
namespace Go.Proofs.YtodmkmoglchoeaaDoor
/- Layer 9: the reference's Holds. -/
section
open Go.RowKit

/-- a node's box in block Q -/
structure NX (w : World) (Q : Nat) (xs : Array Value) (w' : World) : Prop where
  below : Below w.heap.size w w'
  le : w.heap.size ≤ Q
  size : Q < w'.heap.size
  at_ : ∀ j, w'.cell? ⟨Q, j, none⟩ = xs[j]?
theorem NX.call {w W W' : World} {Q : Nat} {xs : Array Value} (h : NX w Q xs W) (hx : Below W.heap.size W W') : NX w Q xs W' :=
  ⟨h.below.trans (hx.mono h.below.size), h.le, Nat.lt_of_lt_of_le h.size hx.size, fun j => (hx.cell (p := ⟨Q, j, none⟩) h.size).trans (h.at_ j)⟩
theorem NX.drew {w W : World} {Q : Nat} {xs : Array Value} (h : NX w Q xs W) : NX w Q xs W.drew := h.call (Below.refl _ _).drew
theorem NX.set {w W : World} {Q : Nat} {xs : Array Value} (h : NX w Q xs W) {P : Nat} (hP : w.heap.size ≤ P) (hne : P ≠ Q) (o : Nat) (v : Value) : NX w Q xs (W.setCell ⟨P, o, none⟩ v) :=
  ⟨h.below.setCell (p := ⟨P, o, none⟩) hP _, h.le, by rw [World.size_setCell]; exact h.size, fun j => by rw [World.cell?_setCell_far _ _ _ _ (by exact hne)]; exact h.at_ j⟩
def nxs (op a b : Nat) (nm at_ : ByteArray) (u v : Int) : Array Value := #[.int .i64 (op : Int), .int .i64 (a : Int), .int .i64 (b : Int), .string nm, .string at_, .int .u64 u, .int .u64 v]
theorem NX.all {w w' : World} {Q op a b : Nat} {nm at_ : ByteArray} {u v : Int} (h : NX w Q (nxs op a b nm at_ u v) w') : NX w Q (nxs op a b nm at_ u v) w' ∧ w'.cell? ⟨Q, 0, none⟩ = some (.int .i64 (op : Int)) ∧ w'.cell? ⟨Q, 1, none⟩ = some (.int .i64 (a : Int)) ∧ w'.cell? ⟨Q, 2, none⟩ = some (.int .i64 (b : Int)) := ⟨h, h.at_ 0, h.at_ 1, h.at_ 2⟩
theorem IntS.storeB {w : World} {s : Bool} {A : Option Addr} {n c : Nat} {z : Int} (h : IntS w s A n c z) {b : Nat} {x : Bool} (c0 : w.cell? ⟨b, 0, none⟩ = some (.bool x)) (y : Bool) (v : Value) : IntS ((w.setCell ⟨b, 0, none⟩ (.bool y)).setCell ⟨b, 1, none⟩ v) s A n c z := ⟨h.1, h.2.1, h.2.2.1, h.2.2.2.1, h.2.2.2.2.store c0 y v⟩
/-- the result's cell in block P -/
structure RC (w : World) (P : Nat) : Prop where
  c0 : w.cell? ⟨P, 0, none⟩ = some (.bool false)
  c1 : w.cell? ⟨P, 1, none⟩ = some (.slice none 0 0)
  f0 : w.frozen? ⟨P, 0, none⟩ = false
  f1 : w.frozen? ⟨P, 1, none⟩ = false
theorem RC.call {w w' : World} {P : Nat} (h : RC w P) (hb : Below w.heap.size w w') : RC w' P := by
  have hl : P < w.heap.size := World.block_lt_of_cell? w _ h.c0
  exact ⟨(hb.cell (p := ⟨P, 0, none⟩) hl).trans h.c0, (hb.cell (p := ⟨P, 1, none⟩) hl).trans h.c1, (hb.frozen (p := ⟨P, 0, none⟩) hl).trans h.f0, (hb.frozen (p := ⟨P, 1, none⟩) hl).trans h.f1⟩
theorem RC.drew {w : World} {P : Nat} (h : RC w P) : RC w.drew P := h.call (Below.refl _ _).drew
theorem RC.all {w : World} {P : Nat} (h : RC w P) : w.cell? ⟨P, 0, none⟩ = some (.bool false) ∧ w.cell? ⟨P, 1, none⟩ = some (.slice none 0 0) ∧ w.frozen? ⟨P, 0, none⟩ = false ∧ w.frozen? ⟨P, 1, none⟩ = false := ⟨h.c0, h.c1, h.f0, h.f1⟩
theorem mn_bnd {env : ByteArray → ByteArray → Nat} (hE : EnvB env) (t : Tr) : t.Ok → Bnd (t.mn env) t.size := by
  induction t with
  | leaf n => intro h; exact leaf_bnd hE h
  | un o t ih => intro h; exact (opMn_bnd (ih h.2) (bnd_tru false 1)).mono (Nat.le_refl _)
  | bin o t u ih1 ih2 => intro h; exact (opMn_bnd (ih1 h.2.2.1) (ih2 h.2.2.2)).mono (by show _ ≤ t.size + u.size + 1; omega)
theorem bd_of {z : Int} {k : Nat} (h : z.natAbs ≤ k * 340282366920938463463374607431768211456) (hk : k ≤ 1000) : Bd z := by
  have h1 := bd_small (n := z.natAbs) (Nat.lt_of_le_of_lt h (Nat.lt_of_le_of_lt (Nat.mul_le_mul_right _ hk) (by decide)))
  unfold Bd at h1 ⊢
  rwa [Int.natAbs_natCast] at h1
theorem bd_tr {env : ByteArray → ByteArray → Nat} (hE : EnvB env) {t : Tr} (h : t.Ok) (hs : t.size ≤ 500) : Bd (t.mn env).int := bd_of (bnd_int (mn_bnd hE t h)) (by omega)
/-- a well-typed tree means what its type says -/
theorem ty_mn {env : ByteArray → ByteArray → Nat} (t : Tr) : t.Ok → t.Wt → (t.ty = 1 → t.mn env = .num (t.mn env).int) ∧ (t.ty = 2 → t.mn env = .tru (t.mn env).bool) := by
  induction t with
  | leaf n =>
    intro h _
    have ho := h.op
    show (typO n.op = 1 → ndM env n [] = _) ∧ (typO n.op = 2 → ndM env n [] = _)
    unfold Tr.mn ndM
    have : n.op = 1 ∨ n.op = 2 ∨ n.op = 3 := by omega
    rcases this with e | e | e <;> rw [e]
    · exact ⟨fun _ => rfl, fun h => (by cases h)⟩
    · exact ⟨fun h => (by cases h), fun _ => rfl⟩
    · exact ⟨fun _ => rfl, fun h => (by cases h)⟩
  | un o t ih =>
    intro h hw
    obtain ⟨i1, i2⟩ := ih h.2 hw.1
    rcases h.1 with rfl | rfl
    · have e := i1 (hw.2.1 rfl)
      refine ⟨fun _ => ?_, fun h => (by cases h)⟩
      unfold Tr.mn
      rw [e]; rfl
    · have e := i2 (hw.2.2 rfl)
      refine ⟨fun h => (by cases h), fun _ => ?_⟩
      unfold Tr.mn
      rw [e]; rfl
  | bin o t u ih1 ih2 =>
    intro h hw
    obtain ⟨i1, i2⟩ := ih1 h.2.2.1 hw.1
    obtain ⟨j1, j2⟩ := ih2 h.2.2.2 hw.2.1
    have hf := hw.2.2
    have h6 := h.1
    have h16 := h.2.1
    have ho : o = 6 ∨ o = 7 ∨ o = 8 ∨ o = 9 ∨ o = 10 ∨ o = 11 ∨ o = 12 ∨ o = 13 ∨ o = 14 ∨ o = 15 ∨ o = 16 := by omega
    unfold Tr.mn
    have num : ∀ o, (o = 6 ∨ o = 7 ∨ o = 10 ∨ o = 11 ∨ o = 12 ∨ o = 13) → fitO o t.ty u.ty = true → t.ty = 1 ∧ u.ty = 1 := by
      intro o ho hf
      rcases ho with rfl | rfl | rfl | rfl | rfl | rfl
      all_goals
        have hf2 : (decide (t.ty = 1) && decide (u.ty = 1)) = true := hf
        rw [Bool.and_eq_true, decide_eq_true_iff, decide_eq_true_iff] at hf2
        exact hf2
    have tru : ∀ o, (o = 14 ∨ o = 15 ∨ o = 16) → fitO o t.ty u.ty = true → t.ty = 2 ∧ u.ty = 2 := by
      intro o ho hf
      rcases ho with rfl | rfl | rfl
      all_goals
        have hf2 : (decide (t.ty = 2) && decide (u.ty = 2)) = true := hf
        rw [Bool.and_eq_true, decide_eq_true_iff, decide_eq_true_iff] at hf2
        exact hf2
    rcases ho with rfl | rfl | rfl | rfl | rfl | rfl | rfl | rfl | rfl | rfl | rfl
    · obtain ⟨a, b⟩ := num 6 (by decide) hf
      rw [i1 a, j1 b]; exact ⟨fun _ => rfl, fun h => (by cases h)⟩
    · obtain ⟨a, b⟩ := num 7 (by decide) hf
      rw [i1 a, j1 b]; exact ⟨fun _ => rfl, fun h => (by cases h)⟩
    · exact ⟨fun h => (by cases h), fun _ => rfl⟩
    · exact ⟨fun h => (by cases h), fun _ => rfl⟩
    · obtain ⟨a, b⟩ := num 10 (by decide) hf
      rw [i1 a, j1 b]; exact ⟨fun h => (by cases h), fun _ => rfl⟩
    · obtain ⟨a, b⟩ := num 11 (by decide) hf
      rw [i1 a, j1 b]; exact ⟨fun h => (by cases h), fun _ => rfl⟩
    · obtain ⟨a, b⟩ := num 12 (by decide) hf
      rw [i1 a, j1 b]; exact ⟨fun h => (by cases h), fun _ => rfl⟩
    · obtain ⟨a, b⟩ := num 13 (by decide) hf
      rw [i1 a, j1 b]; exact ⟨fun h => (by cases h), fun _ => rfl⟩
    · obtain ⟨a, b⟩ := tru 14 (by decide) hf
      rw [i2 a, j2 b]; exact ⟨fun h => (by cases h), fun _ => rfl⟩
    · obtain ⟨a, b⟩ := tru 15 (by decide) hf
      rw [i2 a, j2 b]; exact ⟨fun h => (by cases h), fun _ => rfl⟩
    · obtain ⟨a, b⟩ := tru 16 (by decide) hf
      rw [i2 a, j2 b]; exact ⟨fun h => (by cases h), fun _ => rfl⟩
/-- types of a two-part operation's parts -/
theorem wt_num {o : Nat} {t u : Tr} (hw : (Tr.bin o t u).Wt) (ho : o = 6 ∨ o = 7 ∨ o = 10 ∨ o = 11 ∨ o = 12 ∨ o = 13) : t.ty = 1 ∧ u.ty = 1 := by
  have hf := hw.2.2
  rcases ho with rfl | rfl | rfl | rfl | rfl | rfl
  all_goals
    have hf2 : (decide (t.ty = 1) && decide (u.ty = 1)) = true := hf
    rw [Bool.and_eq_true, decide_eq_true_iff, decide_eq_true_iff] at hf2
    exact hf2
theorem wt_tru {o : Nat} {t u : Tr} (hw : (Tr.bin o t u).Wt) (ho : o = 14 ∨ o = 15 ∨ o = 16) : t.ty = 2 ∧ u.ty = 2 := by
  have hf := hw.2.2
  rcases ho with rfl | rfl | rfl
  all_goals
    have hf2 : (decide (t.ty = 2) && decide (u.ty = 2)) = true := hf
    rw [Bool.and_eq_true, decide_eq_true_iff, decide_eq_true_iff] at hf2
    exact hf2
theorem wt_eq {o : Nat} {t u : Tr} (hw : (Tr.bin o t u).Wt) (ho : o = 8 ∨ o = 9) : (t.ty = 1 ∧ u.ty = 1) ∨ (t.ty = 2 ∧ u.ty = 2) := by
  have hf := hw.2.2
  have hf2 : (decide (t.ty = u.ty) && decide (t.ty ≠ 0)) = true := by
    rcases ho with rfl | rfl <;> exact hf
  rw [Bool.and_eq_true, decide_eq_true_iff] at hf2
  have h1 : t.ty = 1 ∨ t.ty = 2 := by unfold Tr.ty typO; split <;> omega
  have h2 := hf2.1
  omega
/-- the nodes and the bindings in memory, as the reference reads them -/
structure RIn (w : World) (A : Option Addr) (n c : Nat) (o : List Nd) (A2 : Option Addr) (n2 c2 : Nat) (bl : List BindN) : Prop where
  hn : o.length = n
  hn4 : n ≤ 400
  hc : n ≤ c
  hN : NodR w A o
  hl2 : bl.length = n2
  hc2 : n2 ≤ c2
  hn2 : n2 ≤ 100000
  hB : BiR w A2 bl
theorem RIn.below {w w' : World} {A : Option Addr} {n c : Nat} {o : List Nd} {A2 : Option Addr} {n2 c2 : Nat} {bl : List BindN} (h : RIn w A n c o A2 n2 c2 bl) (hb : Below w.heap.size w w') : RIn w' A n c o A2 n2 c2 bl := ⟨h.hn, h.hn4, h.hc, h.hN.below hb, h.hl2, h.hc2, h.hn2, h.hB.below hb⟩
theorem envB_drop (bl : List BindN) (k : Nat) (b : BindN) (hb : bl[k]? = some b) (nm at_ : ByteArray) : envB (bl.drop k) nm at_ = if b.name = nm ∧ b.attr = at_ then b.val else envB (bl.drop (k + 1)) nm at_ := by
  obtain ⟨h1, h2⟩ := List.getElem?_eq_some_iff.1 hb
  rw [List.drop_eq_getElem_cons h1, h2]; rfl
end
/- Layer 9: the reference's Holds, over trees. -/
section
open Go.RowKit

theorem typO_num {k : Nat} : typO k = 1 ↔ numO k = true := by unfold typO; split <;> simp_all
theorem typO_tru {k : Nat} : typO k = 2 ↔ numO k = false := by unfold typO; split <;> simp_all
section
variable {A : Option Addr} {n c : Nat} {o : List Nd} {A2 : Option Addr} {n2 c2 : Nat} {bl : List BindN}
theorem bd_diff (hE : EnvB (envB bl)) {t u : Tr} (ht : t.Ok) (hu : u.Ok) (hs : t.size + u.size ≤ 900) : Bd ((t.mn (envB bl)).int - (u.mn (envB bl)).int) := by
  have h1 := bnd_int (mn_bnd hE t ht)
  have h2 := bnd_int (mn_bnd hE u hu)
  refine bd_of (k := t.size + u.size) ?_ (by omega)
  rw [Nat.add_mul]
  omega
end
end
end Go.Proofs.YtodmkmoglchoeaaDoor
