/- Contracts, joined: NRef, NRef2, NRef3, NAdd, NRef4, NOf, NFrom, NLim. -/
import Derived.Test.YtodmkmoglchoeaaDoorJNTx
import Derived.Test.YtodmkmoglchoeaaDoorJNum
namespace Go.Proofs.YtodmkmoglchoeaaDoor
/- matchguardref05: at, trim, plus. -/
section
open Go.RowKit

/-- digit i of D -/
def gd (D : List Nat) (i : Nat) : Nat := D.getD i 0
/-- The slice v holds the digits D. -/
def DigA (w : World) (A : Option Addr) (D : List Nat) : Prop := D = [] ∨ ∃ b, A = some ⟨b, 0, none⟩ ∧ b < w.heap.size ∧ ∀ i, i < D.length → w.cell? ⟨b, i, none⟩ = some (.int .i64 (gd D i : Nat))
theorem DigA.below {w w' : World} {A : Option Addr} {D : List Nat} (h : DigA w A D) (hb : Below w.heap.size w w') : DigA w' A D := by
  rcases h with h | ⟨b, h1, h2, h3⟩
  · exact .inl h
  · exact .inr ⟨b, h1, Nat.lt_of_lt_of_le h2 hb.size, fun i hi => by rw [hb.cell (p := ⟨b, i, none⟩) h2]; exact h3 i hi⟩
theorem DigA.alloc {w : World} {A : Option Addr} {D : List Nat} (h : DigA w A D) (o : Obj) : DigA (w.alloc o) A D := h.below ((Below.refl _ _).alloc (Nat.le_refl _) _)
theorem DigA.drew {w : World} {A : Option Addr} {D : List Nat} (h : DigA w A D) : DigA w.drew A D := h
theorem DigA.drewN {w : World} {A : Option Addr} {D : List Nat} {n : Nat} (h : DigA w A D) : DigA (w.drewN n) A D := by
  induction n with
  | zero => exact h
  | succ n ih => exact ih
theorem DigA.take {w : World} {A : Option Addr} {D : List Nat} (h : DigA w A D) (k : Nat) : DigA w A (D.take k) := by
  rcases h with rfl | ⟨b, h1, h2, h3⟩
  · exact .inl (by simp)
  · refine .inr ⟨b, h1, h2, fun i hi => ?_⟩
    rw [List.length_take] at hi
    rw [h3 i (by omega), gd, gd, List.getD_eq_getElem?_getD, List.getD_eq_getElem?_getD, List.getElem?_take, if_pos (by omega)]
theorem DigA.at {w : World} {A : Option Addr} {D : List Nat} (h : DigA w A D) (i : Nat) (hi : i < D.length) : ∃ b, A = some ⟨b, 0, none⟩ ∧ b < w.heap.size ∧ w.cell? ⟨b, i, none⟩ = some (.int .i64 (gd D i : Nat)) := by
  rcases h with rfl | ⟨b, h1, h2, h3⟩
  · simp at hi
  · exact ⟨b, h1, h2, h3 i hi⟩
/-- The cells of digits. -/
def dcs (D : List Nat) : List Value := D.map fun d : Nat => Value.int .i64 (d : Int)
theorem dcs_snoc (D : List Nat) (d : Nat) : dcs (D ++ [d]) = dcs D ++ [.int .i64 (d : Int)] := by simp [dcs]
theorem dcs_len (D : List Nat) : (dcs D).length = D.length := by simp [dcs]
theorem dig_own {w : World} {B : Nat} {A : Option Addr} {cap : Nat} {D : List Nat} (h : w.ownsRow B 3 1 (.slice A D.length cap) D.length (dcs D)) : DigA w A D := by
  by_cases h0 : D = []
  · exact .inl h0
  · have hp : 0 < D.length := by cases D with
      | nil => exact absurd rfl h0
      | cons _ _ => simp
    obtain ⟨g, c, hv, hge, hl⟩ := h.form hp
    injection hv with e1 e2 e3
    subst e1
    refine .inr ⟨g, rfl, hl, fun i hi => ?_⟩
    rw [h.cellAt i (by omega)]
    simp [dcs, gd, hi]
theorem own_le {w : World} {B e sz n m : Nat} {A : Option Addr} {cap : Nat} {l : List Value} (h : w.ownsRow B e sz (.slice A m cap) n l) : m ≤ cap := by
  rcases h.2 with ⟨h1, _⟩ | ⟨g, c, cur, h1, _, _, hn, _⟩
  · injection h1 with _ h2 _; omega
  · injection h1 with _ h2 h3; omega

/-- trim's end: the digits of what they are worth, the sign where it is not 0 -/
def RetTrim (A : Option Addr) (m : Bool) (n : Nat) (w : World) (e : Ending) (w' : World) : Prop := ∃ cap, e = .returned (.agg #[.bool (m && decide (0 < n)), .slice A (cd n).length cap]) ∧ DigA w A (cd n) ∧ (cd n).length ≤ cap ∧ Below w.heap.size w w'
theorem cd_pos (n : Nat) : decide (0 < (cd n).length) = decide (0 < n) := by
  by_cases h : n = 0
  · rw [h, cd_0]; rfl
  · have := (cd_len_lo h).1
    rw [decide_eq_true this, decide_eq_true (by omega)]
structure ResAt (w w' : World) (B : Nat) : Prop where
  below : Below w.heap.size w w'
  nb : w.heap.size ≤ B
  lt : B < w'.heap.size
  c0 : ∃ b, w'.cell? ⟨B, 0, none⟩ = some (.bool b)
  c1 : ∃ A n c, w'.cell? ⟨B, 1, none⟩ = some (.slice A n c)
  f0 : w'.frozen? ⟨B, 0, none⟩ = false
  f1 : w'.frozen? ⟨B, 1, none⟩ = false
theorem ResAt.drew {w w' : World} {B : Nat} (h : ResAt w w' B) : ResAt w w'.drew B := ⟨h.below.drew, h.nb, h.lt, h.c0, h.c1, h.f0, h.f1⟩
theorem ResAt.drewN {w w' : World} {B n : Nat} (h : ResAt w w' B) : ResAt w (w'.drewN n) B := by
  induction n with
  | zero => exact h
  | succ n ih => exact ih.drew
theorem ResAt.call {w w1 w2 : World} {B : Nat} (h : ResAt w w1 B) (hb : Below w1.heap.size w1 w2) : ResAt w w2 B :=
  ⟨h.below.trans (hb.mono h.below.size), h.nb, Nat.lt_of_lt_of_le h.lt hb.size, by rw [hb.cell (p := ⟨B, 0, none⟩) h.lt]; exact h.c0, by rw [hb.cell (p := ⟨B, 1, none⟩) h.lt]; exact h.c1, by rw [hb.frozen (p := ⟨B, 0, none⟩) h.lt]; exact h.f0, by rw [hb.frozen (p := ⟨B, 1, none⟩) h.lt]; exact h.f1⟩
end
/- matchguardref05: plus, minus, compare. -/
section
open Go.RowKit

/-- a slice with digits comes back -/
def RetDig (n L : Nat) (w : World) (e : Ending) (w' : World) : Prop := ∃ A cap R, e = .returned (.slice A L cap) ∧ R.length = L ∧ L ≤ cap ∧ Sm R ∧ dv R = n ∧ DigA w' A R ∧ (∀ ad, A = some ad → w.heap.size ≤ ad.block) ∧ Below w.heap.size w w'
theorem app_below {w W W2 : World} {v : Value} {n : Nat} {l : List Value} (hb : Below w.heap.size w W) (h : W.ownsRow w.heap.size 3 1 v n l) (o : Obj) (hg : (W.alloc o).grownBy W2 v.ownBlock) : Below w.heap.size w W2 :=
  (hb.alloc hb.size o).grown hg (Nat.le_trans hb.size (by simp)) (fun _ hk => own_block_ge h hk)
end
/- matchguardref05: minus, compare. -/
section
open Go.RowKit

theorem quiet_now {P : Program} {f : FuncId} {args : Array Value} {w : World} {n : Nat} {v : Value} (h : Calls P f args (w.drewN n) fun e w' => e = .returned v ∧ w.drewN n = w') : Calls P f args (w.drewN n) fun e w'' => e = .returned v ∧ ∃ m, w'' = w.drewN m :=
  h.mono fun _ _ h => ⟨h.1, n, h.2.symm⟩
theorem below_drewN2 {B : Nat} {w0 w : World} {n : Nat} (h : Below B w0 w) : Below B w0 (w.drewN n) := by
  induction n with
  | zero => exact h
  | succ n ih => exact ih.drew
theorem own_drewN2 {w : World} {B e sz n q : Nat} {v : Value} {l : List Value} (h : w.ownsRow B e sz v n l) : (w.drewN q).ownsRow B e sz v n l := by
  induction q with
  | zero => exact h
  | succ q ih => exact World.ownsRow.drew ih
end
/- matchguardref05: Add, Neg, Sub, Compare. -/
section
open Go.RowKit

/-- An Int comes back; nothing that there was is changed. -/
def RetI (z : Int) (w : World) (e : Ending) (w' : World) : Prop := ∃ A cap n, e = .returned (.agg #[.bool (decide (z < 0)), .slice A n cap]) ∧ (cd z.natAbs).length = n ∧ n ≤ cap ∧ DigA w' A (cd z.natAbs) ∧ Below w.heap.size w w'
/-- what Add and its like hand back -/
def RetT (m : Bool) (n : Nat) (w : World) (e : Ending) (w' : World) : Prop := ∃ A cap, e = .returned (.agg #[.bool (m && decide (0 < n)), .slice A (cd n).length cap]) ∧ DigA w' A (cd n) ∧ (cd n).length ≤ cap ∧ Below w.heap.size w w'
theorem ret_trim {m : Bool} {n : Nat} {z : Int} {w w' : World} {e : Ending} (h : RetT m n w e w') (hz : z.natAbs = n) (hs : (m && decide (0 < n)) = decide (z < 0)) : RetI z w e w' := by
  obtain ⟨A, cap, h1, h2, h3, h4⟩ := h
  subst hz
  exact ⟨A, cap, _, by rw [h1, hs], rfl, h3, h2, h4⟩
theorem DigA.set {w : World} {A : Option Addr} {D : List Nat} (h : DigA w A D) {b : Nat} (hb : ∀ ad, A = some ad → ad.block ≠ b) (o : Nat) (v : Value) : DigA (w.setCell ⟨b, o, none⟩ v) A D := by
  rcases h with h | ⟨g, h1, h2, h3⟩
  · exact .inl h
  · exact .inr ⟨g, h1, by rw [World.size_setCell]; exact h2, fun i hi => by rw [World.cell?_setCell_far _ _ _ _ (fun e => hb _ h1 e.symm)]; exact h3 i hi⟩
/-- what Add comes to -/
def addM (m1 m2 : Bool) (a b : Nat) : Bool := if m1 = m2 then m1 else if b ≤ a then m1 else m2
def addN (m1 m2 : Bool) (a b : Nat) : Nat := if m1 = m2 then a + b else if b ≤ a then a - b else b - a
theorem add_int (a b : Int) : (a + b).natAbs = addN (decide (a < 0)) (decide (b < 0)) a.natAbs b.natAbs ∧ (addM (decide (a < 0)) (decide (b < 0)) a.natAbs b.natAbs && decide (0 < addN (decide (a < 0)) (decide (b < 0)) a.natAbs b.natAbs)) = decide (a + b < 0) := by
  unfold addN addM
  by_cases ha : a < 0 <;> by_cases hb : b < 0
  all_goals simp only [ha, hb, decide_true, decide_false, Bool.false_eq_true, if_true, if_false, Bool.true_and, Bool.false_and, reduceCtorEq]
  · refine ⟨by omega, ?_⟩; rw [decide_eq_decide]; omega
  · by_cases hc : b.natAbs ≤ a.natAbs
    · rw [if_pos hc, if_pos hc]
      refine ⟨by omega, ?_⟩
      rw [Bool.true_and, decide_eq_decide]; omega
    · rw [if_neg hc, if_neg hc]
      refine ⟨by omega, ?_⟩
      rw [Bool.false_and]; symm; rw [decide_eq_false_iff_not]; omega
  · by_cases hc : b.natAbs ≤ a.natAbs
    · rw [if_pos hc, if_pos hc]
      refine ⟨by omega, ?_⟩
      rw [Bool.false_and]; symm; rw [decide_eq_false_iff_not]; omega
    · rw [if_neg hc, if_neg hc]
      refine ⟨by omega, ?_⟩
      rw [Bool.true_and, decide_eq_decide]; omega
  · refine ⟨by omega, ?_⟩; symm; rw [decide_eq_false_iff_not]; omega
/-- two boxes of Ints are there, and nothing else of old has changed -/
structure Boxes (w : World) (x0 x1 y0 y1 : Value) (w' : World) : Prop where
  below : Below w.heap.size w w'
  size : w.heap.size + 3 ≤ w'.heap.size
  a0 : w'.cell? ⟨w.heap.size, 0, none⟩ = some x0
  a1 : w'.cell? ⟨w.heap.size, 1, none⟩ = some x1
  b0 : w'.cell? ⟨w.heap.size + 1, 0, none⟩ = some y0
  b1 : w'.cell? ⟨w.heap.size + 1, 1, none⟩ = some y1
def Sx (w : World) (x0 x1 y0 y1 : Value) (w' : World) : Prop := Boxes w x0 x1 y0 y1 w' ∧ w'.cell? ⟨w.heap.size, 0, none⟩ = some x0 ∧ w'.cell? ⟨w.heap.size, 1, none⟩ = some x1 ∧ w'.cell? ⟨w.heap.size + 1, 0, none⟩ = some y0 ∧ w'.cell? ⟨w.heap.size + 1, 1, none⟩ = some y1
theorem Boxes.all {w w' : World} {x0 x1 y0 y1 : Value} (h : Boxes w x0 x1 y0 y1 w') : Boxes w x0 x1 y0 y1 w' ∧ w'.cell? ⟨w.heap.size, 0, none⟩ = some x0 ∧ w'.cell? ⟨w.heap.size, 1, none⟩ = some x1 ∧ w'.cell? ⟨w.heap.size + 1, 0, none⟩ = some y0 ∧ w'.cell? ⟨w.heap.size + 1, 1, none⟩ = some y1 := ⟨h, h.a0, h.a1, h.b0, h.b1⟩
theorem Boxes.call {w W W' : World} {x0 x1 y0 y1 : Value} (h : Boxes w x0 x1 y0 y1 W) (hx : Below W.heap.size W W') : Boxes w x0 x1 y0 y1 W' := by
  have hs := h.size
  have c : ∀ b o, b < w.heap.size + 3 → W'.cell? ⟨b, o, none⟩ = W.cell? ⟨b, o, none⟩ := fun b o hb => hx.cell (p := ⟨b, o, none⟩) (by show b < _; omega)
  exact ⟨h.below.trans (hx.mono (by omega)), Nat.le_trans h.size hx.size, by rw [c _ _ (by omega)]; exact h.a0, by rw [c _ _ (by omega)]; exact h.a1, by rw [c _ _ (by omega)]; exact h.b0, by rw [c _ _ (by omega)]; exact h.b1⟩
theorem Boxes.drew {w W : World} {x0 x1 y0 y1 : Value} (h : Boxes w x0 x1 y0 y1 W) : Boxes w x0 x1 y0 y1 W.drew := ⟨h.below.drew, h.size, h.a0, h.a1, h.b0, h.b1⟩
theorem Boxes.set {w W : World} {x0 x1 y0 y1 : Value} (h : Boxes w x0 x1 y0 y1 W) (o : Nat) (v : Value) : Boxes w x0 x1 y0 y1 (W.setCell ⟨w.heap.size + 1 + 1, o, none⟩ v) :=
  ⟨h.below.setCell (by simp; omega) _, by rw [World.size_setCell]; exact h.size, by rw [World.cell?_setCell_far _ _ _ _ (by simp; omega)]; exact h.a0, by rw [World.cell?_setCell_far _ _ _ _ (by simp; omega)]; exact h.a1, by rw [World.cell?_setCell_far _ _ _ _ (by simp)]; exact h.b0, by rw [World.cell?_setCell_far _ _ _ _ (by simp)]; exact h.b1⟩
theorem Boxes.cells {w W W' : World} {x0 x1 y0 y1 z0 z1 : Value} (h : Boxes w x0 x1 y0 y1 W) (hx : Below W.heap.size W W') (r0 : W.cell? ⟨w.heap.size + 1 + 1, 0, none⟩ = some z0) (r1 : W.cell? ⟨w.heap.size + 1 + 1, 1, none⟩ = some z1) (f0 : W.frozen? ⟨w.heap.size + 1 + 1, 0, none⟩ = false) (f1 : W.frozen? ⟨w.heap.size + 1 + 1, 1, none⟩ = false) :
    W'.cell? ⟨w.heap.size + 1 + 1, 0, none⟩ = some z0 ∧ W'.cell? ⟨w.heap.size + 1 + 1, 1, none⟩ = some z1 ∧ W'.frozen? ⟨w.heap.size + 1 + 1, 0, none⟩ = false ∧ W'.frozen? ⟨w.heap.size + 1 + 1, 1, none⟩ = false := by
  have hs := h.size
  exact ⟨by rw [hx.cell (p := ⟨_, _, none⟩) (by show w.heap.size + 1 + 1 < _; omega)]; exact r0, by rw [hx.cell (p := ⟨_, _, none⟩) (by show w.heap.size + 1 + 1 < _; omega)]; exact r1, by rw [hx.frozen (p := ⟨_, _, none⟩) (by show w.heap.size + 1 + 1 < _; omega)]; exact f0, by rw [hx.frozen (p := ⟨_, _, none⟩) (by show w.heap.size + 1 + 1 < _; omega)]; exact f1⟩
/-- An Int in memory. -/
def IntV (w : World) (A : Option Addr) (n c : Nat) (z : Int) : Prop := (cd z.natAbs).length = n ∧ n ≤ c ∧ n ≤ 800 ∧ DigA w A (cd z.natAbs)
theorem IntV.below {w w' : World} {A : Option Addr} {n c : Nat} {z : Int} (h : IntV w A n c z) (hb : Below w.heap.size w w') : IntV w' A n c z := ⟨h.1, h.2.1, h.2.2.1, h.2.2.2.below hb⟩
theorem RetI.form {z : Int} {w w' : World} {e : Ending} (h : RetI z w e w') (hz : z.natAbs < 10 ^ 800) : ∃ A n c, e = .returned (.agg #[.bool (decide (z < 0)), .slice A n c]) ∧ IntV w' A n c z ∧ Below w.heap.size w w' := by
  obtain ⟨A, cap, n, h1, h2, h3, h4, h5⟩ := h
  exact ⟨A, n, cap, h1, ⟨h2, h3, by rw [← h2]; exact cd_len hz, h4⟩, h5⟩
end
/- matchguardref05: Neg, Sub, Compare, Of. -/
section
open Go.RowKit

def Bd (z : Int) : Prop := z.natAbs < 10 ^ 800
/-- An Int in memory, with its sign. -/
structure IntS (w : World) (s : Bool) (A : Option Addr) (n c : Nat) (z : Int) : Prop where
  sign : decide (z < 0) = s
  v : IntV w A n c z
theorem IntS.below {w w' : World} {s : Bool} {A : Option Addr} {n c : Nat} {z : Int} (h : IntS w s A n c z) (hb : Below w.heap.size w w') : IntS w' s A n c z := ⟨h.1, h.2.below hb⟩
theorem IntS.alloc {w : World} {s : Bool} {A : Option Addr} {n c : Nat} {z : Int} (h : IntS w s A n c z) (o : Obj) : IntS (w.alloc o) s A n c z := h.below ((Below.refl _ _).alloc (Nat.le_refl _) _)
/-- An Int comes back, in memory that can be read; nothing that there was is changed. -/
def RetF (z : Int) (w : World) (e : Ending) (w' : World) : Prop := ∃ s A n c, e = .returned (.agg #[.bool s, .slice A n c]) ∧ IntS w' s A n c z ∧ Below w.heap.size w w'
theorem DigA.store {w : World} {A : Option Addr} {D : List Nat} (h : DigA w A D) {b : Nat} {x : Bool} (c0 : w.cell? ⟨b, 0, none⟩ = some (.bool x)) (y : Bool) (v : Value) : DigA ((w.setCell ⟨b, 0, none⟩ (.bool y)).setCell ⟨b, 1, none⟩ v) A D := by
  by_cases h0 : D = []
  · exact .inl h0
  · have hp : 0 < D.length := by cases D with
      | nil => exact absurd rfl h0
      | cons _ _ => simp
    obtain ⟨g, hg, _, hc⟩ := h.at 0 hp
    have hne : ∀ ad, A = some ad → ad.block ≠ b := fun ad e e2 => by
      rw [hg] at e; injection e with e; subst e; simp only at e2; subst e2
      rw [c0] at hc; injection hc with hc; cases hc
    exact (h.set hne 0 _).set hne 1 _
theorem IntS.store {w : World} {s : Bool} {A : Option Addr} {n c : Nat} {z : Int} (h : IntS w s A n c z) {b : Nat} {x : Bool} (c0 : w.cell? ⟨b, 0, none⟩ = some (.bool x)) (y : Bool) (v : Value) : IntS ((w.setCell ⟨b, 0, none⟩ (.bool y)).setCell ⟨b, 1, none⟩ v) s A n c z :=
  ⟨h.1, h.2.1, h.2.2.1, h.2.2.2.1, h.2.2.2.2.store c0 y v⟩
theorem cd_len_zero {z : Int} {n : Nat} (h : (cd z.natAbs).length = n) : (n = 0 ↔ z = 0) := by
  subst h
  constructor
  · intro h
    by_cases h0 : z.natAbs = 0
    · omega
    · have := (cd_len_lo h0).1; omega
  · rintro rfl; simp [cd]
end
/- matchguardref05: Of. -/
section
open Go.RowKit

theorem tmod_neg (r : Nat) : (-(r : Int)).tmod 10 = -((r % 10 : Nat) : Int) := by
  rw [Int.neg_tmod, Int.tmod_eq_emod_of_nonneg (by omega)]; omega
theorem tdiv_neg (r : Nat) : (-(r : Int)).tdiv 10 = -((r / 10 : Nat) : Int) := by
  rw [Int.neg_tdiv, Int.tdiv_eq_ediv_of_nonneg (by omega)]; omega
theorem of_step {o p r N : Nat} (h : o + p * r = N) : (o + p * (r % 10)) + p * 10 * (r / 10) = N := by
  rw [← h, Nat.mul_assoc, Nat.add_assoc, ← Nat.mul_add]
  congr 2
  omega
theorem pw_room {r k : Nat} (h : r < 10 ^ (20 - k)) (h0 : r ≠ 0) : k < 20 := by
  apply Nat.lt_of_not_le
  intro hk
  rw [Nat.sub_eq_zero_of_le hk] at h
  omega
theorem pw_next {r k : Nat} (h : r < 10 ^ (20 - k)) (hk : k < 20) : r / 10 < 10 ^ (20 - (k + 1)) := by
  rw [show 20 - k = (20 - (k + 1)) + 1 by omega, Nat.pow_succ] at h
  omega
theorem res_app {w W W2 : World} {v : Value} {n : Nat} {l : List Value} (hR : ResAt w W w.heap.size) (h : W.ownsRow (w.heap.size + 1) 3 1 v n l) (o : Obj) (hg : (W.alloc o).grownBy W2 v.ownBlock) : ResAt w W2 w.heap.size := by
  have hl := hR.lt
  have hne : some w.heap.size ≠ v.ownBlock := fun e => by have := own_block_ge h e.symm; omega
  have hb : W2.heap[w.heap.size]? = (W.alloc o).heap[w.heap.size]? := hg.block _ (by simp; omega) hne
  have c : ∀ i, W2.cell? ⟨w.heap.size, i, none⟩ = W.cell? ⟨w.heap.size, i, none⟩ := fun i => by rw [World.cell?_of_block (a := ⟨w.heap.size, i, none⟩) hb, World.cell?_alloc_past _ _ _ hl]
  have f : ∀ i, W2.frozen? ⟨w.heap.size, i, none⟩ = W.frozen? ⟨w.heap.size, i, none⟩ := fun i => by rw [World.frozen?_of_block (a := ⟨w.heap.size, i, none⟩) hb, World.frozen?_alloc_past _ _ _ hl]
  refine ⟨(hR.below.alloc hR.below.size o).grown hg (Nat.le_trans hR.below.size (by simp)) (fun k hk => by have := own_block_ge h hk; omega), Nat.le_refl _, ?_, by rw [c]; exact hR.c0, by rw [c]; exact hR.c1, by rw [f]; exact hR.f0, by rw [f]; exact hR.f1⟩
  have := hg.size; simp at this; omega
end
/- matchguardref05: From. -/
section
open Go.RowKit

/-- An Int in a box that may be written. -/
structure BoxI (w : World) (P : Nat) (s : Bool) (A : Option Addr) (n c : Nat) (z : Int) : Prop where
  c0 : w.cell? ⟨P, 0, none⟩ = some (.bool s)
  c1 : w.cell? ⟨P, 1, none⟩ = some (.slice A n c)
  f0 : w.frozen? ⟨P, 0, none⟩ = false
  f1 : w.frozen? ⟨P, 1, none⟩ = false
  v : IntS w s A n c z
theorem BoxI.lt {w : World} {P : Nat} {s : Bool} {A : Option Addr} {n c : Nat} {z : Int} (h : BoxI w P s A n c z) : P < w.heap.size := World.block_lt_of_cell? w _ h.c0
theorem BoxI.call {w w' : World} {P : Nat} {s : Bool} {A : Option Addr} {n c : Nat} {z : Int} (h : BoxI w P s A n c z) (hb : Below w.heap.size w w') : BoxI w' P s A n c z :=
  ⟨by rw [hb.cell (p := ⟨P, 0, none⟩) h.lt]; exact h.c0, by rw [hb.cell (p := ⟨P, 1, none⟩) h.lt]; exact h.c1, by rw [hb.frozen (p := ⟨P, 0, none⟩) h.lt]; exact h.f0, by rw [hb.frozen (p := ⟨P, 1, none⟩) h.lt]; exact h.f1, h.v.below hb⟩
theorem BoxI.drew {w : World} {P : Nat} {s : Bool} {A : Option Addr} {n c : Nat} {z : Int} (h : BoxI w P s A n c z) : BoxI w.drew P s A n c z := ⟨h.c0, h.c1, h.f0, h.f1, ⟨h.v.1, h.v.2⟩⟩
/-- another Int is stored into the box -/
theorem BoxI.set {w : World} {P : Nat} {s s' : Bool} {A A' : Option Addr} {n c n' c' : Nat} {z z' : Int} (h : BoxI w P s A n c z) (h' : IntS w s' A' n' c' z') : BoxI ((w.setCell ⟨P, 0, none⟩ (.bool s')).setCell ⟨P, 1, none⟩ (.slice A' n' c')) P s' A' n' c' z' := by
  refine ⟨?_, ?_, ?_, ?_, h'.store h.c0 _ _⟩
  · rw [World.cell?_setCell_other _ _ _ _ (by simp), World.cell?_setCell_same' _ _ _ (by rw [h.c0]; rfl)]
  · rw [World.cell?_setCell_same' _ _ _ (by rw [World.cell?_setCell_other _ _ _ _ (by simp), h.c1]; rfl)]
  · rw [World.frozen?_setCell, World.frozen?_setCell]; exact h.f0
  · rw [World.frozen?_setCell, World.frozen?_setCell]; exact h.f1
theorem ResAt.set {w w' : World} {B P : Nat} (h : ResAt w w' B) (hP : P ≠ B) (hw : w.heap.size ≤ P) (v0 v1 : Value) : ResAt w ((w'.setCell ⟨P, 0, none⟩ v0).setCell ⟨P, 1, none⟩ v1) B :=
  ⟨(h.below.setCell (by exact hw) _).setCell (by exact hw) _, h.nb, by rw [World.size_setCell, World.size_setCell]; exact h.lt, by rw [World.cell?_setCell_far _ _ _ _ hP, World.cell?_setCell_far _ _ _ _ hP]; exact h.c0, by rw [World.cell?_setCell_far _ _ _ _ hP, World.cell?_setCell_far _ _ _ _ hP]; exact h.c1, by rw [World.frozen?_setCell, World.frozen?_setCell]; exact h.f0, by rw [World.frozen?_setCell, World.frozen?_setCell]; exact h.f1⟩
/-- From's state behind bit k: the result's block, the bits, the number of the bits from k on -/
structure FrAt (w : World) (v Q P k : Nat) (w' : World) : Prop where
  res : ResAt w w' (w.heap.size + 1)
  bits : BitsAt w' Q v.testBit
  q : w.heap.size + 2 ≤ Q
  qp : Q < P
  box : ∃ s A n c, BoxI w' P s A n c ((v / 2 ^ k : Nat) : Int)
theorem bit_up (v k : Nat) : v / 2 ^ k = v / 2 ^ (k + 1) + v / 2 ^ (k + 1) + (if v.testBit k then 1 else 0) := by
  rw [Nat.pow_succ, ← Nat.div_div_eq_div_mul, Nat.testBit_eq_decide_div_mod_eq]
  by_cases h : v / 2 ^ k % 2 = 1
  · simp only [h, decide_true, if_true]; omega
  · simp only [h, decide_false, Bool.false_eq_true, if_false]; omega
theorem bd_v {v : Nat} (h : v < 2 ^ 128) (k : Nat) : v / 2 ^ k < 2 ^ 128 := Nat.lt_of_le_of_lt (Nat.div_le_self _ _) h
theorem bd_small {n : Nat} (h : n < 2 ^ 140) : Bd (n : Int) := by
  unfold Bd
  have e : (n : Int).natAbs = n := Int.natAbs_natCast n
  rw [e]
  exact Nat.lt_trans h (by decide +kernel)
end
/- matchguardref05: Limit and Fits. -/
section
open Go.RowKit

/-- the digits of 2^128, the lowest first -/
def D128 : List Nat := [6, 5, 4, 1, 1, 2, 8, 6, 7, 1, 3, 4, 7, 0, 6, 4, 7, 3, 3, 6, 4, 3, 6, 4, 8, 3, 9, 0, 2, 9, 6, 6, 3, 2, 8, 2, 0, 4, 3]
theorem d128_cd : cd 340282366920938463463374607431768211456 = D128 := by
  rw [cd, if_neg (by decide)]
  iterate 38 rw [dg_hi (by decide)]
  rw [dg_lo (by decide)]
  rfl
/-- the bytes of its text -/
def S128 : ByteArray := ⟨#[51, 52, 48, 50, 56, 50, 51, 54, 54, 57, 50, 48, 57, 51, 56, 52, 54, 51, 52, 54, 51, 51, 55, 52, 54, 48, 55, 52, 51, 49, 55, 54, 56, 50, 49, 49, 52, 53, 54]⟩
theorem s128_lit : S128 = ⟨#[51, 52, 48, 50, 56, 50, 51, 54, 54, 57, 50, 48, 57, 51, 56, 52, 54, 51, 52, 54, 51, 51, 55, 52, 54, 48, 55, 52, 51, 49, 55, 54, 56, 50, 49, 49, 52, 53, 54]⟩ := rfl
theorem s128_size : S128.size = 39 := rfl
theorem s128_at : ∀ i, (h : i < 39) → (((S128[i]'h).toNat : Int) - 48) % 256 = ((gd D128 (38 - i) : Nat) : Int) := by decide +kernel
theorem lim_snoc (D : List Nat) (k : Nat) (hk : k < D.length) : D.take (k + 1) = D.take k ++ [gd D k] := by
  unfold gd
  rw [List.take_add_one, List.getD_eq_getElem?_getD, List.getElem?_eq_getElem hk]
  rfl
theorem d128_len : D128.length = 39 := rfl
theorem d128_9 : Sm D128 := by unfold Sm D128; decide
/-- an Int in a box -/
structure FitW (w : World) (s : Bool) (A : Option Addr) (n c : Nat) (z : Int) (w' : World) : Prop where
  below : Below w.heap.size w w'
  bx : BoxI w' w.heap.size s A n c z
theorem FitW.call {w w1 w2 : World} {s : Bool} {A : Option Addr} {n c : Nat} {z : Int} (h : FitW w s A n c z w1) (hb : Below w1.heap.size w1 w2) : FitW w s A n c z w2 := ⟨h.below.trans (hb.mono h.below.size), h.bx.call hb⟩
theorem FitW.drew {w w1 : World} {s : Bool} {A : Option Addr} {n c : Nat} {z : Int} (h : FitW w s A n c z w1) : FitW w s A n c z w1.drew := ⟨h.below.drew, h.bx.drew⟩
theorem FitW.all {w w' : World} {s : Bool} {A : Option Addr} {n c : Nat} {z : Int} (h : FitW w s A n c z w') : FitW w s A n c z w' ∧ w'.cell? ⟨w.heap.size, 0, none⟩ = some (.bool s) ∧ w'.cell? ⟨w.heap.size, 1, none⟩ = some (.slice A n c) := ⟨h, h.bx.c0, h.bx.c1⟩
end
end Go.Proofs.YtodmkmoglchoeaaDoor
