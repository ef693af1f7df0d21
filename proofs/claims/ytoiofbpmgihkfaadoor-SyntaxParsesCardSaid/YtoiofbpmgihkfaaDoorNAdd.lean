/- matchguardref05: Add, Neg, Sub, Compare. -/
import Derived.Test.YtoiofbpmgihkfaaDoorNRef3
namespace Go.Proofs.YtoiofbpmgihkfaaDoor
open Go.RowKit

/-- An Int comes back; nothing that there was is changed. -/
def RetI (z : Int) (w : World) (e : Ending) (w' : World) : Prop := ∃ A cap n, e = .returned (.agg #[.bool (decide (z < 0)), .slice A n cap]) ∧ (cd z.natAbs).length = n ∧ n ≤ cap ∧ DigA w' A (cd z.natAbs) ∧ Below w.heap.size w w'
/-- what Add and its like hand back -/
def RetT (m : Bool) (n : Nat) (w : World) (e : Ending) (w' : World) : Prop := ∃ A cap, e = .returned (.agg #[.bool (m && decide (0 < n)), .slice A (cd n).length cap]) ∧ DigA w' A (cd n) ∧ (cd n).length ≤ cap ∧ Below w.heap.size w w'
theorem ret_trim {m : Bool} {n : Nat} {z : Int} {w w' : World} {e : Ending} (h : RetT m n w e w') (hz : z.natAbs = n) (hs : (m && decide (0 < n)) = decide (z < 0)) : RetI z w e w' := by
  obtain ⟨A, cap, h1, h2, h3, h4⟩ := h
  subst hz
  exact ⟨A, cap, _, by rw [h1, hs], rfl, h3, h2, h4⟩
theorem DigA.set {w : World} {A : Option Addr} {D : List Nat} (h : DigA w A D) {b : Nat} (hb : ∀ ad, A = some ad → ad.block ≠ b) (o : Nat) (v : Value) : DigA (w.setCell ⟨b, o, none⟩ v) A D := by
  rcases h with h | ⟨g, h1, h2, h3⟩
  · exact .inl h
  · exact .inr ⟨g, h1, by rw [World.size_setCell]; exact h2, fun i hi => by rw [World.cell?_setCell_far _ _ _ _ (fun e => hb _ h1 e.symm)]; exact h3 i hi⟩
/-- what Add comes to -/
def addM (m1 m2 : Bool) (a b : Nat) : Bool := if m1 = m2 then m1 else if b ≤ a then m1 else m2
def addN (m1 m2 : Bool) (a b : Nat) : Nat := if m1 = m2 then a + b else if b ≤ a then a - b else b - a
theorem add_int (a b : Int) : (a + b).natAbs = addN (decide (a < 0)) (decide (b < 0)) a.natAbs b.natAbs ∧ (addM (decide (a < 0)) (decide (b < 0)) a.natAbs b.natAbs && decide (0 < addN (decide (a < 0)) (decide (b < 0)) a.natAbs b.natAbs)) = decide (a + b < 0) := by
  unfold addN addM
  by_cases ha : a < 0 <;> by_cases hb : b < 0
  all_goals simp only [ha, hb, decide_true, decide_false, Bool.false_eq_true, if_true, if_false, Bool.true_and, Bool.false_and, reduceCtorEq]
  · refine ⟨by omega, ?_⟩; rw [decide_eq_decide]; omega
  · by_cases hc : b.natAbs ≤ a.natAbs
    · rw [if_pos hc, if_pos hc]
      refine ⟨by omega, ?_⟩
      rw [Bool.true_and, decide_eq_decide]; omega
    · rw [if_neg hc, if_neg hc]
      refine ⟨by omega, ?_⟩
      rw [Bool.false_and]; symm; rw [decide_eq_false_iff_not]; omega
  · by_cases hc : b.natAbs ≤ a.natAbs
    · rw [if_pos hc, if_pos hc]
      refine ⟨by omega, ?_⟩
      rw [Bool.false_and]; symm; rw [decide_eq_false_iff_not]; omega
    · rw [if_neg hc, if_neg hc]
      refine ⟨by omega, ?_⟩
      rw [Bool.true_and, decide_eq_decide]; omega
  · refine ⟨by omega, ?_⟩; symm; rw [decide_eq_false_iff_not]; omega
/-- two boxes of Ints are there, and nothing else of old has changed -/
structure Boxes (w : World) (x0 x1 y0 y1 : Value) (w' : World) : Prop where
  below : Below w.heap.size w w'
  size : w.heap.size + 3 ≤ w'.heap.size
  a0 : w'.cell? ⟨w.heap.size, 0, none⟩ = some x0
  a1 : w'.cell? ⟨w.heap.size, 1, none⟩ = some x1
  b0 : w'.cell? ⟨w.heap.size + 1, 0, none⟩ = some y0
  b1 : w'.cell? ⟨w.heap.size + 1, 1, none⟩ = some y1
def Sx (w : World) (x0 x1 y0 y1 : Value) (w' : World) : Prop := Boxes w x0 x1 y0 y1 w' ∧ w'.cell? ⟨w.heap.size, 0, none⟩ = some x0 ∧ w'.cell? ⟨w.heap.size, 1, none⟩ = some x1 ∧ w'.cell? ⟨w.heap.size + 1, 0, none⟩ = some y0 ∧ w'.cell? ⟨w.heap.size + 1, 1, none⟩ = some y1
theorem Boxes.all {w w' : World} {x0 x1 y0 y1 : Value} (h : Boxes w x0 x1 y0 y1 w') : Boxes w x0 x1 y0 y1 w' ∧ w'.cell? ⟨w.heap.size, 0, none⟩ = some x0 ∧ w'.cell? ⟨w.heap.size, 1, none⟩ = some x1 ∧ w'.cell? ⟨w.heap.size + 1, 0, none⟩ = some y0 ∧ w'.cell? ⟨w.heap.size + 1, 1, none⟩ = some y1 := ⟨h, h.a0, h.a1, h.b0, h.b1⟩
theorem Boxes.call {w W W' : World} {x0 x1 y0 y1 : Value} (h : Boxes w x0 x1 y0 y1 W) (hx : Below W.heap.size W W') : Boxes w x0 x1 y0 y1 W' := by
  have hs := h.size
  have c : ∀ b o, b < w.heap.size + 3 → W'.cell? ⟨b, o, none⟩ = W.cell? ⟨b, o, none⟩ := fun b o hb => hx.cell (p := ⟨b, o, none⟩) (by show b < _; omega)
  exact ⟨h.below.trans (hx.mono (by omega)), Nat.le_trans h.size hx.size, by rw [c _ _ (by omega)]; exact h.a0, by rw [c _ _ (by omega)]; exact h.a1, by rw [c _ _ (by omega)]; exact h.b0, by rw [c _ _ (by omega)]; exact h.b1⟩
theorem Boxes.drew {w W : World} {x0 x1 y0 y1 : Value} (h : Boxes w x0 x1 y0 y1 W) : Boxes w x0 x1 y0 y1 W.drew := ⟨h.below.drew, h.size, h.a0, h.a1, h.b0, h.b1⟩
theorem Boxes.set {w W : World} {x0 x1 y0 y1 : Value} (h : Boxes w x0 x1 y0 y1 W) (o : Nat) (v : Value) : Boxes w x0 x1 y0 y1 (W.setCell ⟨w.heap.size + 1 + 1, o, none⟩ v) :=
  ⟨h.below.setCell (by simp; omega) _, by rw [World.size_setCell]; exact h.size, by rw [World.cell?_setCell_far _ _ _ _ (by simp; omega)]; exact h.a0, by rw [World.cell?_setCell_far _ _ _ _ (by simp; omega)]; exact h.a1, by rw [World.cell?_setCell_far _ _ _ _ (by simp)]; exact h.b0, by rw [World.cell?_setCell_far _ _ _ _ (by simp)]; exact h.b1⟩
theorem Boxes.cells {w W W' : World} {x0 x1 y0 y1 z0 z1 : Value} (h : Boxes w x0 x1 y0 y1 W) (hx : Below W.heap.size W W') (r0 : W.cell? ⟨w.heap.size + 1 + 1, 0, none⟩ = some z0) (r1 : W.cell? ⟨w.heap.size + 1 + 1, 1, none⟩ = some z1) (f0 : W.frozen? ⟨w.heap.size + 1 + 1, 0, none⟩ = false) (f1 : W.frozen? ⟨w.heap.size + 1 + 1, 1, none⟩ = false) :
    W'.cell? ⟨w.heap.size + 1 + 1, 0, none⟩ = some z0 ∧ W'.cell? ⟨w.heap.size + 1 + 1, 1, none⟩ = some z1 ∧ W'.frozen? ⟨w.heap.size + 1 + 1, 0, none⟩ = false ∧ W'.frozen? ⟨w.heap.size + 1 + 1, 1, none⟩ = false := by
  have hs := h.size
  exact ⟨by rw [hx.cell (p := ⟨_, _, none⟩) (by show w.heap.size + 1 + 1 < _; omega)]; exact r0, by rw [hx.cell (p := ⟨_, _, none⟩) (by show w.heap.size + 1 + 1 < _; omega)]; exact r1, by rw [hx.frozen (p := ⟨_, _, none⟩) (by show w.heap.size + 1 + 1 < _; omega)]; exact f0, by rw [hx.frozen (p := ⟨_, _, none⟩) (by show w.heap.size + 1 + 1 < _; omega)]; exact f1⟩
set_option maxRecDepth 100000 in
set_option maxHeartbeats 4000000 in
theorem ri_add_pp (w : World) (A1 A2 : Option Addr) (c1 c2 n1 n2 a b : Nat) (hn1 : (cd a).length = n1) (hn2 : (cd b).length = n2) (hl1 : n1 ≤ 800) (hl2 : n2 ≤ 800) (h1 : DigA w A1 (cd a)) (h2 : DigA w A2 (cd b)) :
    Calls Tryd.prog 48 #[.agg #[.bool false, .slice A1 n1 c1], .agg #[.bool false, .slice A2 n2 c2]] w (RetT false (a + b) w) := by
  have H1 := Lib.hid h1
  have H2 := Lib.hid h2
  have HN1 := Lib.hid hn1
  have HN2 := Lib.hid hn2
  have da := dv_cd a
  have db := dv_cd b
  have DA := Lib.hid da
  have DB := Lib.hid db
  clear h1 h2 da db hn1 hn2
  go_enter Tryd.func48, Tryd.ntmps48
  go_upto_region 2 with fail
  obtain ⟨W, hW⟩ : ∃ W, W = ((w.alloc (.cells #[.bool false, .slice A1 n1 c1] 70)).alloc (.cells #[.bool false, .slice A2 n2 c2] 70)).alloc (.cells #[.bool false, .slice none 0 0] 70) := ⟨_, rfl⟩
  have hB : Below w.heap.size w W := by rw [hW]; exact (((Below.refl _ _).alloc (by simp) _).alloc (by simp) _).alloc (by simp; omega) _
  have hs : w.heap.size + 3 ≤ W.heap.size := by rw [hW]; simp
  have a0 : W.cell? ⟨w.heap.size, 0, none⟩ = some (.bool false) := by rw [hW]; simp [go_sem]
  have a1 : W.cell? ⟨w.heap.size, 1, none⟩ = some (.slice A1 n1 c1) := by rw [hW]; simp [go_sem]
  have b0 : W.cell? ⟨w.heap.size + 1, 0, none⟩ = some (.bool false) := by rw [hW]; simp [go_sem]
  have b1 : W.cell? ⟨w.heap.size + 1, 1, none⟩ = some (.slice A2 n2 c2) := by rw [hW]; simp [go_sem]
  have r0 : W.cell? ⟨w.heap.size + 1 + 1, 0, none⟩ = some (.bool false) := by rw [hW]; simp [go_sem]
  have r1 : W.cell? ⟨w.heap.size + 1 + 1, 1, none⟩ = some (.slice none 0 0) := by rw [hW]; simp [go_sem]
  have f0 : W.frozen? ⟨w.heap.size + 1 + 1, 0, none⟩ = false := by rw [hW]; simp [go_sem]
  have f1 : W.frozen? ⟨w.heap.size + 1 + 1, 1, none⟩ = false := by rw [hW]; simp [go_sem]
  have HX : Hid (Boxes w (.bool false) (.slice A1 n1 c1) (.bool false) (.slice A2 n2 c2) W) := Lib.hid ⟨hB, hs, a0, a1, b0, b1⟩
  rw [← hW]
  clear hW hB hs a0 a1 b0 b1
  go_region_held3 (fun w' => Boxes w (.bool false) (.slice A1 n1 c1) (.bool false) (.slice A2 n2 c2) w' ∧ w'.cell? ⟨w.heap.size, 0, none⟩ = some (.bool false) ∧ w'.cell? ⟨w.heap.size, 1, none⟩ = some (.slice A1 n1 c1) ∧ w'.cell? ⟨w.heap.size + 1, 0, none⟩ = some (.bool false) ∧ w'.cell? ⟨w.heap.size + 1, 1, none⟩ = some (.slice A2 n2 c2))
    (first
      | exact (Boxes.drew HX.out).all
      | exact (Boxes.call (And.left (by assumption)) (by assumption)).all
      | exact (Boxes.set (And.left (by assumption)) _ _).all
      | exact (Boxes.set (Boxes.set (And.left (by assumption)) _ _) _ _).all)
    (first
      | (go_at_call 60; refine (ri_plus _ A1 A2 c1 c2 _ _ (cd a) (cd b) HN1.out HN2.out (by rw [HN1.out]; omega) (by rw [HN2.out]; omega) (sm_cd a) (sm_cd b) (H1.out.below (Boxes.below (And.left (by assumption)))) (H2.out.below (Boxes.below (And.left (by assumption))))).mono ?_; rintro e w2 ⟨A, cap, R, rfl, hR, hc, hS, hv, hD, hF, hb2⟩; have HR := Lib.hid hR; have HS := Lib.hid hS; have HV := Lib.hid hv; have HD := Lib.hid hD; obtain ⟨k0, k1, l0, l1⟩ := Boxes.cells (Boxes.drew HX.out) hb2 r0 r1 f0 f1; have HX2 := Lib.hid (Boxes.call (Boxes.drew HX.out) hb2); have HF := Lib.hid hF; clear hR hS hv hD hF)
      | (go_at_call 59; refine (ri_trim _ _ A cap _ R HR.out (by rw [HR.out]; omega) (by rw [HR.out]; exact hc) HS.out (HD.out)).mono ?_; rintro e w3 ⟨cap', rfl, hD3, hl3, hb3⟩; have HD3 := Lib.hid (hD3.below hb3); obtain ⟨k2, k3, l2, l3⟩ := Boxes.cells HX2.out hb3 k0 k1 l0 l1; have HX3 := Lib.hid (Boxes.call HX2.out hb3); clear hD3))
  all_goals go_wp2_with fail
  have hF := fun ad (h : A = some ad) => (show ad.block ≠ w.heap.size + 1 + 1 by have := HF.out ad h; have hs := HX.out.size; have e : W.heap.size ≤ ad.block := this; omega)
  have hV : dv R = a + b := by rw [HV.out, DA.out, DB.out]
  have hsz := HX3.out.size
  refine bodyPost_ret (v := .agg #[.bool (false && decide (0 < dv R)), .slice A (cd (dv R)).length cap']) (by simp [results, Tryd.results48, go_sem, k2, k3]) rfl ⟨A, cap', by rw [hV], ?_, by rw [← hV]; exact hl3, ?_⟩
  · rw [← hV]; exact (HD3.out.set hF 0 _).set hF 1 _
  · exact store2 HX3.out.below (by omega) _ _
set_option maxRecDepth 100000 in
set_option maxHeartbeats 4000000 in
theorem ri_add_nn (w : World) (A1 A2 : Option Addr) (c1 c2 n1 n2 a b : Nat) (hn1 : (cd a).length = n1) (hn2 : (cd b).length = n2) (hl1 : n1 ≤ 800) (hl2 : n2 ≤ 800) (h1 : DigA w A1 (cd a)) (h2 : DigA w A2 (cd b)) :
    Calls Tryd.prog 48 #[.agg #[.bool true, .slice A1 n1 c1], .agg #[.bool true, .slice A2 n2 c2]] w (RetT true (a + b) w) := by
  have H1 := Lib.hid h1
  have H2 := Lib.hid h2
  have HN1 := Lib.hid hn1
  have HN2 := Lib.hid hn2
  have da := dv_cd a
  have db := dv_cd b
  have DA := Lib.hid da
  have DB := Lib.hid db
  clear h1 h2 da db hn1 hn2
  go_enter Tryd.func48, Tryd.ntmps48
  go_upto_region 2 with fail
  obtain ⟨W, hW⟩ : ∃ W, W = ((w.alloc (.cells #[.bool true, .slice A1 n1 c1] 70)).alloc (.cells #[.bool true, .slice A2 n2 c2] 70)).alloc (.cells #[.bool false, .slice none 0 0] 70) := ⟨_, rfl⟩
  have hB : Below w.heap.size w W := by rw [hW]; exact (((Below.refl _ _).alloc (by simp) _).alloc (by simp) _).alloc (by simp; omega) _
  have hs : w.heap.size + 3 ≤ W.heap.size := by rw [hW]; simp
  have a0 : W.cell? ⟨w.heap.size, 0, none⟩ = some (.bool true) := by rw [hW]; simp [go_sem]
  have a1 : W.cell? ⟨w.heap.size, 1, none⟩ = some (.slice A1 n1 c1) := by rw [hW]; simp [go_sem]
  have b0 : W.cell? ⟨w.heap.size + 1, 0, none⟩ = some (.bool true) := by rw [hW]; simp [go_sem]
  have b1 : W.cell? ⟨w.heap.size + 1, 1, none⟩ = some (.slice A2 n2 c2) := by rw [hW]; simp [go_sem]
  have r0 : W.cell? ⟨w.heap.size + 1 + 1, 0, none⟩ = some (.bool false) := by rw [hW]; simp [go_sem]
  have r1 : W.cell? ⟨w.heap.size + 1 + 1, 1, none⟩ = some (.slice none 0 0) := by rw [hW]; simp [go_sem]
  have f0 : W.frozen? ⟨w.heap.size + 1 + 1, 0, none⟩ = false := by rw [hW]; simp [go_sem]
  have f1 : W.frozen? ⟨w.heap.size + 1 + 1, 1, none⟩ = false := by rw [hW]; simp [go_sem]
  have HX : Hid (Boxes w (.bool true) (.slice A1 n1 c1) (.bool true) (.slice A2 n2 c2) W) := Lib.hid ⟨hB, hs, a0, a1, b0, b1⟩
  rw [← hW]
  clear hW hB hs a0 a1 b0 b1
  go_region_held3 (fun w' => Boxes w (.bool true) (.slice A1 n1 c1) (.bool true) (.slice A2 n2 c2) w' ∧ w'.cell? ⟨w.heap.size, 0, none⟩ = some (.bool true) ∧ w'.cell? ⟨w.heap.size, 1, none⟩ = some (.slice A1 n1 c1) ∧ w'.cell? ⟨w.heap.size + 1, 0, none⟩ = some (.bool true) ∧ w'.cell? ⟨w.heap.size + 1, 1, none⟩ = some (.slice A2 n2 c2))
    (first
      | exact (Boxes.drew HX.out).all
      | exact (Boxes.call (And.left (by assumption)) (by assumption)).all
      | exact (Boxes.set (And.left (by assumption)) _ _).all
      | exact (Boxes.set (Boxes.set (And.left (by assumption)) _ _) _ _).all)
    (first
      | (go_at_call 60; refine (ri_plus _ A1 A2 c1 c2 _ _ (cd a) (cd b) HN1.out HN2.out (by rw [HN1.out]; omega) (by rw [HN2.out]; omega) (sm_cd a) (sm_cd b) (H1.out.below (Boxes.below (And.left (by assumption)))) (H2.out.below (Boxes.below (And.left (by assumption))))).mono ?_; rintro e w2 ⟨A, cap, R, rfl, hR, hc, hS, hv, hD, hF, hb2⟩; have HR := Lib.hid hR; have HS := Lib.hid hS; have HV := Lib.hid hv; have HD := Lib.hid hD; obtain ⟨k0, k1, l0, l1⟩ := Boxes.cells (Boxes.drew HX.out) hb2 r0 r1 f0 f1; have HX2 := Lib.hid (Boxes.call (Boxes.drew HX.out) hb2); have HF := Lib.hid hF; clear hR hS hv hD hF)
      | (go_at_call 59; refine (ri_trim _ _ A cap _ R HR.out (by rw [HR.out]; omega) (by rw [HR.out]; exact hc) HS.out (HD.out)).mono ?_; rintro e w3 ⟨cap', rfl, hD3, hl3, hb3⟩; have HD3 := Lib.hid (hD3.below hb3); obtain ⟨k2, k3, l2, l3⟩ := Boxes.cells HX2.out hb3 k0 k1 l0 l1; have HX3 := Lib.hid (Boxes.call HX2.out hb3); clear hD3))
  all_goals go_wp2_with fail
  have hF := fun ad (h : A = some ad) => (show ad.block ≠ w.heap.size + 1 + 1 by have := HF.out ad h; have hs := HX.out.size; have e : W.heap.size ≤ ad.block := this; omega)
  have hV : dv R = a + b := by rw [HV.out, DA.out, DB.out]
  have hsz := HX3.out.size
  refine bodyPost_ret (v := .agg #[.bool (true && decide (0 < dv R)), .slice A (cd (dv R)).length cap']) (by simp [results, Tryd.results48, go_sem, k2, k3]) rfl ⟨A, cap', by rw [hV], ?_, by rw [← hV]; exact hl3, ?_⟩
  · rw [← hV]; exact (HD3.out.set hF 0 _).set hF 1 _
  · exact store2 HX3.out.below (by omega) _ _
set_option maxRecDepth 100000 in
set_option maxHeartbeats 4000000 in
theorem ri_add_np_ge (w : World) (A1 A2 : Option Addr) (c1 c2 n1 n2 a b : Nat) (hn1 : (cd a).length = n1) (hn2 : (cd b).length = n2) (hl1 : n1 ≤ 800) (_hl2 : n2 ≤ 800) (h1 : DigA w A1 (cd a)) (h2 : DigA w A2 (cd b)) (hab : b ≤ a) :
    Calls Tryd.prog 48 #[.agg #[.bool true, .slice A1 n1 c1], .agg #[.bool false, .slice A2 n2 c2]] w (RetT true (a - b) w) := by
  have H1 := Lib.hid h1
  have H2 := Lib.hid h2
  have HN1 := Lib.hid hn1
  have HN2 := Lib.hid hn2
  have da := dv_cd a
  have db := dv_cd b
  have DA := Lib.hid da
  have DB := Lib.hid db
  clear h1 h2 da db hn1 hn2
  have HAB := Lib.hid hab
  have hsg : 0 ≤ sgn a b := by unfold sgn; rw [if_neg (by omega : ¬ (a : Int) < b)]; split <;> decide
  clear hab
  go_enter Tryd.func48, Tryd.ntmps48
  go_upto_region 4 with (go_at_call 61; refine (ri_cmp _ A1 A2 c1 c2 _ _ a b HN1.out HN2.out (by rw [HN1.out]; omega) (((H1.out.alloc _).alloc _).alloc _) (((H2.out.alloc _).alloc _).alloc _)).mono ?_; rintro e w1 ⟨rfl, q, rfl⟩)
  obtain ⟨W, hW⟩ : ∃ W, W = (((w.alloc (.cells #[.bool true, .slice A1 n1 c1] 70)).alloc (.cells #[.bool false, .slice A2 n2 c2] 70)).alloc (.cells #[.bool false, .slice none 0 0] 70)).drewN q := ⟨_, rfl⟩
  have hB : Below w.heap.size w W := by rw [hW]; exact below_drewN2 ((((Below.refl _ _).alloc (by simp) _).alloc (by simp) _).alloc (by simp; omega) _)
  have hs : w.heap.size + 3 ≤ W.heap.size := by rw [hW]; simp
  have a0 : W.cell? ⟨w.heap.size, 0, none⟩ = some (.bool true) := by rw [hW]; simp [go_sem]
  have a1 : W.cell? ⟨w.heap.size, 1, none⟩ = some (.slice A1 n1 c1) := by rw [hW]; simp [go_sem]
  have b0 : W.cell? ⟨w.heap.size + 1, 0, none⟩ = some (.bool false) := by rw [hW]; simp [go_sem]
  have b1 : W.cell? ⟨w.heap.size + 1, 1, none⟩ = some (.slice A2 n2 c2) := by rw [hW]; simp [go_sem]
  have r0 : W.cell? ⟨w.heap.size + 1 + 1, 0, none⟩ = some (.bool false) := by rw [hW]; simp [go_sem]
  have r1 : W.cell? ⟨w.heap.size + 1 + 1, 1, none⟩ = some (.slice none 0 0) := by rw [hW]; simp [go_sem]
  have f0 : W.frozen? ⟨w.heap.size + 1 + 1, 0, none⟩ = false := by rw [hW]; simp [go_sem]
  have f1 : W.frozen? ⟨w.heap.size + 1 + 1, 1, none⟩ = false := by rw [hW]; simp [go_sem]
  have HX : Hid (Boxes w (.bool true) (.slice A1 n1 c1) (.bool false) (.slice A2 n2 c2) W) := Lib.hid ⟨hB, hs, a0, a1, b0, b1⟩
  rw [← hW]
  clear hW hB hs a0 a1 b0 b1
  go_region_held3 (fun w' => Boxes w (.bool true) (.slice A1 n1 c1) (.bool false) (.slice A2 n2 c2) w' ∧ w'.cell? ⟨w.heap.size, 0, none⟩ = some (.bool true) ∧ w'.cell? ⟨w.heap.size, 1, none⟩ = some (.slice A1 n1 c1) ∧ w'.cell? ⟨w.heap.size + 1, 0, none⟩ = some (.bool false) ∧ w'.cell? ⟨w.heap.size + 1, 1, none⟩ = some (.slice A2 n2 c2))
    (first
      | exact (Boxes.drew HX.out).all
      | exact (Boxes.call (And.left (by assumption)) (by assumption)).all
      | exact (Boxes.set (And.left (by assumption)) _ _).all
      | exact (Boxes.set (Boxes.set (And.left (by assumption)) _ _) _ _).all)
    (first
      | (go_at_call 62; refine (ri_minus _ A1 A2 c1 c2 _ _ (cd a) (cd b) HN1.out HN2.out (by rw [HN1.out]; omega) (cd_len_le HAB.out) (by rw [DA.out, DB.out]; exact HAB.out) (sm_cd a) (sm_cd b) (H1.out.below (Boxes.below (And.left (by assumption)))) (H2.out.below (Boxes.below (And.left (by assumption))))).mono ?_; rintro e w2 ⟨A, cap, R, rfl, hR, hc, hS, hv, hD, hF, hb2⟩; have HR := Lib.hid hR; have HS := Lib.hid hS; have HV := Lib.hid hv; have HD := Lib.hid hD; obtain ⟨k0, k1, l0, l1⟩ := Boxes.cells (Boxes.drew HX.out) hb2 r0 r1 f0 f1; have HX2 := Lib.hid (Boxes.call (Boxes.drew HX.out) hb2); have HF := Lib.hid hF; clear hR hS hv hD hF)
      | (go_at_call 59; refine (ri_trim _ _ A cap _ R HR.out (by rw [HR.out]; omega) (by rw [HR.out]; exact hc) HS.out (HD.out)).mono ?_; rintro e w3 ⟨cap', rfl, hD3, hl3, hb3⟩; have HD3 := Lib.hid (hD3.below hb3); obtain ⟨k2, k3, l2, l3⟩ := Boxes.cells HX2.out hb3 k0 k1 l0 l1; have HX3 := Lib.hid (Boxes.call HX2.out hb3); clear hD3))
  all_goals go_wp2_with fail
  have hF := fun ad (h : A = some ad) => (show ad.block ≠ w.heap.size + 1 + 1 by have := HF.out ad h; have hs := HX.out.size; have e : W.heap.size ≤ ad.block := this; omega)
  have hV : dv R = a - b := by rw [HV.out, DA.out, DB.out]
  have hsz := HX3.out.size
  refine bodyPost_ret (v := .agg #[.bool (true && decide (0 < dv R)), .slice A (cd (dv R)).length cap']) (by simp [results, Tryd.results48, go_sem, k2, k3]) rfl ⟨A, cap', by rw [hV], ?_, by rw [← hV]; exact hl3, ?_⟩
  · rw [← hV]; exact (HD3.out.set hF 0 _).set hF 1 _
  · exact store2 HX3.out.below (by omega) _ _
set_option maxRecDepth 100000 in
set_option maxHeartbeats 4000000 in
theorem ri_add_np_lt (w : World) (A1 A2 : Option Addr) (c1 c2 n1 n2 a b : Nat) (hn1 : (cd a).length = n1) (hn2 : (cd b).length = n2) (hl1 : n1 ≤ 800) (hl2 : n2 ≤ 800) (h1 : DigA w A1 (cd a)) (h2 : DigA w A2 (cd b)) (hab : a < b) :
    Calls Tryd.prog 48 #[.agg #[.bool true, .slice A1 n1 c1], .agg #[.bool false, .slice A2 n2 c2]] w (RetT false (b - a) w) := by
  have H1 := Lib.hid h1
  have H2 := Lib.hid h2
  have HN1 := Lib.hid hn1
  have HN2 := Lib.hid hn2
  have da := dv_cd a
  have db := dv_cd b
  have DA := Lib.hid da
  have DB := Lib.hid db
  clear h1 h2 da db hn1 hn2
  have HAB := Lib.hid hab
  have hsg : sgn a b < 0 := by unfold sgn; rw [if_neg (by omega), if_pos (by omega)]; decide
  have hsg' : ¬ 0 ≤ sgn a b := by omega
  clear hab
  go_enter Tryd.func48, Tryd.ntmps48
  go_upto_region 5 with (go_at_call 61; refine (ri_cmp _ A1 A2 c1 c2 _ _ a b HN1.out HN2.out (by rw [HN1.out]; omega) (((H1.out.alloc _).alloc _).alloc _) (((H2.out.alloc _).alloc _).alloc _)).mono ?_; rintro e w1 ⟨rfl, q, rfl⟩)
  obtain ⟨W, hW⟩ : ∃ W, W = (((w.alloc (.cells #[.bool true, .slice A1 n1 c1] 70)).alloc (.cells #[.bool false, .slice A2 n2 c2] 70)).alloc (.cells #[.bool false, .slice none 0 0] 70)).drewN q := ⟨_, rfl⟩
  have hB : Below w.heap.size w W := by rw [hW]; exact below_drewN2 ((((Below.refl _ _).alloc (by simp) _).alloc (by simp) _).alloc (by simp; omega) _)
  have hs : w.heap.size + 3 ≤ W.heap.size := by rw [hW]; simp
  have a0 : W.cell? ⟨w.heap.size, 0, none⟩ = some (.bool true) := by rw [hW]; simp [go_sem]
  have a1 : W.cell? ⟨w.heap.size, 1, none⟩ = some (.slice A1 n1 c1) := by rw [hW]; simp [go_sem]
  have b0 : W.cell? ⟨w.heap.size + 1, 0, none⟩ = some (.bool false) := by rw [hW]; simp [go_sem]
  have b1 : W.cell? ⟨w.heap.size + 1, 1, none⟩ = some (.slice A2 n2 c2) := by rw [hW]; simp [go_sem]
  have r0 : W.cell? ⟨w.heap.size + 1 + 1, 0, none⟩ = some (.bool false) := by rw [hW]; simp [go_sem]
  have r1 : W.cell? ⟨w.heap.size + 1 + 1, 1, none⟩ = some (.slice none 0 0) := by rw [hW]; simp [go_sem]
  have f0 : W.frozen? ⟨w.heap.size + 1 + 1, 0, none⟩ = false := by rw [hW]; simp [go_sem]
  have f1 : W.frozen? ⟨w.heap.size + 1 + 1, 1, none⟩ = false := by rw [hW]; simp [go_sem]
  have HX : Hid (Boxes w (.bool true) (.slice A1 n1 c1) (.bool false) (.slice A2 n2 c2) W) := Lib.hid ⟨hB, hs, a0, a1, b0, b1⟩
  rw [← hW]
  clear hW hB hs a0 a1 b0 b1
  go_region_held3 (fun w' => Boxes w (.bool true) (.slice A1 n1 c1) (.bool false) (.slice A2 n2 c2) w' ∧ w'.cell? ⟨w.heap.size, 0, none⟩ = some (.bool true) ∧ w'.cell? ⟨w.heap.size, 1, none⟩ = some (.slice A1 n1 c1) ∧ w'.cell? ⟨w.heap.size + 1, 0, none⟩ = some (.bool false) ∧ w'.cell? ⟨w.heap.size + 1, 1, none⟩ = some (.slice A2 n2 c2))
    (first
      | exact (Boxes.drew HX.out).all
      | exact (Boxes.call (And.left (by assumption)) (by assumption)).all
      | exact (Boxes.set (And.left (by assumption)) _ _).all
      | exact (Boxes.set (Boxes.set (And.left (by assumption)) _ _) _ _).all)
    (first
      | (go_at_call 62; refine (ri_minus _ A2 A1 c2 c1 _ _ (cd b) (cd a) HN2.out HN1.out (by rw [HN2.out]; omega) (cd_len_le (Nat.le_of_lt HAB.out)) (by rw [DA.out, DB.out]; exact Nat.le_of_lt HAB.out) (sm_cd b) (sm_cd a) (H2.out.below (Boxes.below (And.left (by assumption)))) (H1.out.below (Boxes.below (And.left (by assumption))))).mono ?_; rintro e w2 ⟨A, cap, R, rfl, hR, hc, hS, hv, hD, hF, hb2⟩; have HR := Lib.hid hR; have HS := Lib.hid hS; have HV := Lib.hid hv; have HD := Lib.hid hD; obtain ⟨k0, k1, l0, l1⟩ := Boxes.cells (Boxes.drew HX.out) hb2 r0 r1 f0 f1; have HX2 := Lib.hid (Boxes.call (Boxes.drew HX.out) hb2); have HF := Lib.hid hF; clear hR hS hv hD hF)
      | (go_at_call 59; refine (ri_trim _ _ A cap _ R HR.out (by rw [HR.out]; omega) (by rw [HR.out]; exact hc) HS.out (HD.out)).mono ?_; rintro e w3 ⟨cap', rfl, hD3, hl3, hb3⟩; have HD3 := Lib.hid (hD3.below hb3); obtain ⟨k2, k3, l2, l3⟩ := Boxes.cells HX2.out hb3 k0 k1 l0 l1; have HX3 := Lib.hid (Boxes.call HX2.out hb3); clear hD3))
  all_goals go_wp2_with fail
  have hF := fun ad (h : A = some ad) => (show ad.block ≠ w.heap.size + 1 + 1 by have := HF.out ad h; have hs := HX.out.size; have e : W.heap.size ≤ ad.block := this; omega)
  have hV : dv R = b - a := by rw [HV.out, DA.out, DB.out]
  have hsz := HX3.out.size
  refine bodyPost_ret (v := .agg #[.bool (false && decide (0 < dv R)), .slice A (cd (dv R)).length cap']) (by simp [results, Tryd.results48, go_sem, k2, k3]) rfl ⟨A, cap', by rw [hV], ?_, by rw [← hV]; exact hl3, ?_⟩
  · rw [← hV]; exact (HD3.out.set hF 0 _).set hF 1 _
  · exact store2 HX3.out.below (by omega) _ _
set_option maxRecDepth 100000 in
set_option maxHeartbeats 4000000 in
theorem ri_add_pn_ge (w : World) (A1 A2 : Option Addr) (c1 c2 n1 n2 a b : Nat) (hn1 : (cd a).length = n1) (hn2 : (cd b).length = n2) (hl1 : n1 ≤ 800) (_hl2 : n2 ≤ 800) (h1 : DigA w A1 (cd a)) (h2 : DigA w A2 (cd b)) (hab : b ≤ a) :
    Calls Tryd.prog 48 #[.agg #[.bool false, .slice A1 n1 c1], .agg #[.bool true, .slice A2 n2 c2]] w (RetT false (a - b) w) := by
  have H1 := Lib.hid h1
  have H2 := Lib.hid h2
  have HN1 := Lib.hid hn1
  have HN2 := Lib.hid hn2
  have da := dv_cd a
  have db := dv_cd b
  have DA := Lib.hid da
  have DB := Lib.hid db
  clear h1 h2 da db hn1 hn2
  have HAB := Lib.hid hab
  have hsg : 0 ≤ sgn a b := by unfold sgn; rw [if_neg (by omega : ¬ (a : Int) < b)]; split <;> decide
  clear hab
  go_enter Tryd.func48, Tryd.ntmps48
  go_upto_region 4 with (go_at_call 61; refine (ri_cmp _ A1 A2 c1 c2 _ _ a b HN1.out HN2.out (by rw [HN1.out]; omega) (((H1.out.alloc _).alloc _).alloc _) (((H2.out.alloc _).alloc _).alloc _)).mono ?_; rintro e w1 ⟨rfl, q, rfl⟩)
  obtain ⟨W, hW⟩ : ∃ W, W = (((w.alloc (.cells #[.bool false, .slice A1 n1 c1] 70)).alloc (.cells #[.bool true, .slice A2 n2 c2] 70)).alloc (.cells #[.bool false, .slice none 0 0] 70)).drewN q := ⟨_, rfl⟩
  have hB : Below w.heap.size w W := by rw [hW]; exact below_drewN2 ((((Below.refl _ _).alloc (by simp) _).alloc (by simp) _).alloc (by simp; omega) _)
  have hs : w.heap.size + 3 ≤ W.heap.size := by rw [hW]; simp
  have a0 : W.cell? ⟨w.heap.size, 0, none⟩ = some (.bool false) := by rw [hW]; simp [go_sem]
  have a1 : W.cell? ⟨w.heap.size, 1, none⟩ = some (.slice A1 n1 c1) := by rw [hW]; simp [go_sem]
  have b0 : W.cell? ⟨w.heap.size + 1, 0, none⟩ = some (.bool true) := by rw [hW]; simp [go_sem]
  have b1 : W.cell? ⟨w.heap.size + 1, 1, none⟩ = some (.slice A2 n2 c2) := by rw [hW]; simp [go_sem]
  have r0 : W.cell? ⟨w.heap.size + 1 + 1, 0, none⟩ = some (.bool false) := by rw [hW]; simp [go_sem]
  have r1 : W.cell? ⟨w.heap.size + 1 + 1, 1, none⟩ = some (.slice none 0 0) := by rw [hW]; simp [go_sem]
  have f0 : W.frozen? ⟨w.heap.size + 1 + 1, 0, none⟩ = false := by rw [hW]; simp [go_sem]
  have f1 : W.frozen? ⟨w.heap.size + 1 + 1, 1, none⟩ = false := by rw [hW]; simp [go_sem]
  have HX : Hid (Boxes w (.bool false) (.slice A1 n1 c1) (.bool true) (.slice A2 n2 c2) W) := Lib.hid ⟨hB, hs, a0, a1, b0, b1⟩
  rw [← hW]
  clear hW hB hs a0 a1 b0 b1
  go_region_held3 (fun w' => Boxes w (.bool false) (.slice A1 n1 c1) (.bool true) (.slice A2 n2 c2) w' ∧ w'.cell? ⟨w.heap.size, 0, none⟩ = some (.bool false) ∧ w'.cell? ⟨w.heap.size, 1, none⟩ = some (.slice A1 n1 c1) ∧ w'.cell? ⟨w.heap.size + 1, 0, none⟩ = some (.bool true) ∧ w'.cell? ⟨w.heap.size + 1, 1, none⟩ = some (.slice A2 n2 c2))
    (first
      | exact (Boxes.drew HX.out).all
      | exact (Boxes.call (And.left (by assumption)) (by assumption)).all
      | exact (Boxes.set (And.left (by assumption)) _ _).all
      | exact (Boxes.set (Boxes.set (And.left (by assumption)) _ _) _ _).all)
    (first
      | (go_at_call 62; refine (ri_minus _ A1 A2 c1 c2 _ _ (cd a) (cd b) HN1.out HN2.out (by rw [HN1.out]; omega) (cd_len_le HAB.out) (by rw [DA.out, DB.out]; exact HAB.out) (sm_cd a) (sm_cd b) (H1.out.below (Boxes.below (And.left (by assumption)))) (H2.out.below (Boxes.below (And.left (by assumption))))).mono ?_; rintro e w2 ⟨A, cap, R, rfl, hR, hc, hS, hv, hD, hF, hb2⟩; have HR := Lib.hid hR; have HS := Lib.hid hS; have HV := Lib.hid hv; have HD := Lib.hid hD; obtain ⟨k0, k1, l0, l1⟩ := Boxes.cells (Boxes.drew HX.out) hb2 r0 r1 f0 f1; have HX2 := Lib.hid (Boxes.call (Boxes.drew HX.out) hb2); have HF := Lib.hid hF; clear hR hS hv hD hF)
      | (go_at_call 59; refine (ri_trim _ _ A cap _ R HR.out (by rw [HR.out]; omega) (by rw [HR.out]; exact hc) HS.out (HD.out)).mono ?_; rintro e w3 ⟨cap', rfl, hD3, hl3, hb3⟩; have HD3 := Lib.hid (hD3.below hb3); obtain ⟨k2, k3, l2, l3⟩ := Boxes.cells HX2.out hb3 k0 k1 l0 l1; have HX3 := Lib.hid (Boxes.call HX2.out hb3); clear hD3))
  all_goals go_wp2_with fail
  have hF := fun ad (h : A = some ad) => (show ad.block ≠ w.heap.size + 1 + 1 by have := HF.out ad h; have hs := HX.out.size; have e : W.heap.size ≤ ad.block := this; omega)
  have hV : dv R = a - b := by rw [HV.out, DA.out, DB.out]
  have hsz := HX3.out.size
  refine bodyPost_ret (v := .agg #[.bool (false && decide (0 < dv R)), .slice A (cd (dv R)).length cap']) (by simp [results, Tryd.results48, go_sem, k2, k3]) rfl ⟨A, cap', by rw [hV], ?_, by rw [← hV]; exact hl3, ?_⟩
  · rw [← hV]; exact (HD3.out.set hF 0 _).set hF 1 _
  · exact store2 HX3.out.below (by omega) _ _
set_option maxRecDepth 100000 in
set_option maxHeartbeats 4000000 in
theorem ri_add_pn_lt (w : World) (A1 A2 : Option Addr) (c1 c2 n1 n2 a b : Nat) (hn1 : (cd a).length = n1) (hn2 : (cd b).length = n2) (hl1 : n1 ≤ 800) (hl2 : n2 ≤ 800) (h1 : DigA w A1 (cd a)) (h2 : DigA w A2 (cd b)) (hab : a < b) :
    Calls Tryd.prog 48 #[.agg #[.bool false, .slice A1 n1 c1], .agg #[.bool true, .slice A2 n2 c2]] w (RetT true (b - a) w) := by
  have H1 := Lib.hid h1
  have H2 := Lib.hid h2
  have HN1 := Lib.hid hn1
  have HN2 := Lib.hid hn2
  have da := dv_cd a
  have db := dv_cd b
  have DA := Lib.hid da
  have DB := Lib.hid db
  clear h1 h2 da db hn1 hn2
  have HAB := Lib.hid hab
  have hsg : sgn a b < 0 := by unfold sgn; rw [if_neg (by omega), if_pos (by omega)]; decide
  have hsg' : ¬ 0 ≤ sgn a b := by omega
  clear hab
  go_enter Tryd.func48, Tryd.ntmps48
  go_upto_region 5 with (go_at_call 61; refine (ri_cmp _ A1 A2 c1 c2 _ _ a b HN1.out HN2.out (by rw [HN1.out]; omega) (((H1.out.alloc _).alloc _).alloc _) (((H2.out.alloc _).alloc _).alloc _)).mono ?_; rintro e w1 ⟨rfl, q, rfl⟩)
  obtain ⟨W, hW⟩ : ∃ W, W = (((w.alloc (.cells #[.bool false, .slice A1 n1 c1] 70)).alloc (.cells #[.bool true, .slice A2 n2 c2] 70)).alloc (.cells #[.bool false, .slice none 0 0] 70)).drewN q := ⟨_, rfl⟩
  have hB : Below w.heap.size w W := by rw [hW]; exact below_drewN2 ((((Below.refl _ _).alloc (by simp) _).alloc (by simp) _).alloc (by simp; omega) _)
  have hs : w.heap.size + 3 ≤ W.heap.size := by rw [hW]; simp
  have a0 : W.cell? ⟨w.heap.size, 0, none⟩ = some (.bool false) := by rw [hW]; simp [go_sem]
  have a1 : W.cell? ⟨w.heap.size, 1, none⟩ = some (.slice A1 n1 c1) := by rw [hW]; simp [go_sem]
  have b0 : W.cell? ⟨w.heap.size + 1, 0, none⟩ = some (.bool true) := by rw [hW]; simp [go_sem]
  have b1 : W.cell? ⟨w.heap.size + 1, 1, none⟩ = some (.slice A2 n2 c2) := by rw [hW]; simp [go_sem]
  have r0 : W.cell? ⟨w.heap.size + 1 + 1, 0, none⟩ = some (.bool false) := by rw [hW]; simp [go_sem]
  have r1 : W.cell? ⟨w.heap.size + 1 + 1, 1, none⟩ = some (.slice none 0 0) := by rw [hW]; simp [go_sem]
  have f0 : W.frozen? ⟨w.heap.size + 1 + 1, 0, none⟩ = false := by rw [hW]; simp [go_sem]
  have f1 : W.frozen? ⟨w.heap.size + 1 + 1, 1, none⟩ = false := by rw [hW]; simp [go_sem]
  have HX : Hid (Boxes w (.bool false) (.slice A1 n1 c1) (.bool true) (.slice A2 n2 c2) W) := Lib.hid ⟨hB, hs, a0, a1, b0, b1⟩
  rw [← hW]
  clear hW hB hs a0 a1 b0 b1
  go_region_held3 (fun w' => Boxes w (.bool false) (.slice A1 n1 c1) (.bool true) (.slice A2 n2 c2) w' ∧ w'.cell? ⟨w.heap.size, 0, none⟩ = some (.bool false) ∧ w'.cell? ⟨w.heap.size, 1, none⟩ = some (.slice A1 n1 c1) ∧ w'.cell? ⟨w.heap.size + 1, 0, none⟩ = some (.bool true) ∧ w'.cell? ⟨w.heap.size + 1, 1, none⟩ = some (.slice A2 n2 c2))
    (first
      | exact (Boxes.drew HX.out).all
      | exact (Boxes.call (And.left (by assumption)) (by assumption)).all
      | exact (Boxes.set (And.left (by assumption)) _ _).all
      | exact (Boxes.set (Boxes.set (And.left (by assumption)) _ _) _ _).all)
    (first
      | (go_at_call 62; refine (ri_minus _ A2 A1 c2 c1 _ _ (cd b) (cd a) HN2.out HN1.out (by rw [HN2.out]; omega) (cd_len_le (Nat.le_of_lt HAB.out)) (by rw [DA.out, DB.out]; exact Nat.le_of_lt HAB.out) (sm_cd b) (sm_cd a) (H2.out.below (Boxes.below (And.left (by assumption)))) (H1.out.below (Boxes.below (And.left (by assumption))))).mono ?_; rintro e w2 ⟨A, cap, R, rfl, hR, hc, hS, hv, hD, hF, hb2⟩; have HR := Lib.hid hR; have HS := Lib.hid hS; have HV := Lib.hid hv; have HD := Lib.hid hD; obtain ⟨k0, k1, l0, l1⟩ := Boxes.cells (Boxes.drew HX.out) hb2 r0 r1 f0 f1; have HX2 := Lib.hid (Boxes.call (Boxes.drew HX.out) hb2); have HF := Lib.hid hF; clear hR hS hv hD hF)
      | (go_at_call 59; refine (ri_trim _ _ A cap _ R HR.out (by rw [HR.out]; omega) (by rw [HR.out]; exact hc) HS.out (HD.out)).mono ?_; rintro e w3 ⟨cap', rfl, hD3, hl3, hb3⟩; have HD3 := Lib.hid (hD3.below hb3); obtain ⟨k2, k3, l2, l3⟩ := Boxes.cells HX2.out hb3 k0 k1 l0 l1; have HX3 := Lib.hid (Boxes.call HX2.out hb3); clear hD3))
  all_goals go_wp2_with fail
  have hF := fun ad (h : A = some ad) => (show ad.block ≠ w.heap.size + 1 + 1 by have := HF.out ad h; have hs := HX.out.size; have e : W.heap.size ≤ ad.block := this; omega)
  have hV : dv R = b - a := by rw [HV.out, DA.out, DB.out]
  have hsz := HX3.out.size
  refine bodyPost_ret (v := .agg #[.bool (true && decide (0 < dv R)), .slice A (cd (dv R)).length cap']) (by simp [results, Tryd.results48, go_sem, k2, k3]) rfl ⟨A, cap', by rw [hV], ?_, by rw [← hV]; exact hl3, ?_⟩
  · rw [← hV]; exact (HD3.out.set hF 0 _).set hF 1 _
  · exact store2 HX3.out.below (by omega) _ _
/-- An Int in memory. -/
def IntV (w : World) (A : Option Addr) (n c : Nat) (z : Int) : Prop := (cd z.natAbs).length = n ∧ n ≤ c ∧ n ≤ 800 ∧ DigA w A (cd z.natAbs)
theorem IntV.below {w w' : World} {A : Option Addr} {n c : Nat} {z : Int} (h : IntV w A n c z) (hb : Below w.heap.size w w') : IntV w' A n c z := ⟨h.1, h.2.1, h.2.2.1, h.2.2.2.below hb⟩
theorem RetI.form {z : Int} {w w' : World} {e : Ending} (h : RetI z w e w') (hz : z.natAbs < 10 ^ 800) : ∃ A n c, e = .returned (.agg #[.bool (decide (z < 0)), .slice A n c]) ∧ IntV w' A n c z ∧ Below w.heap.size w w' := by
  obtain ⟨A, cap, n, h1, h2, h3, h4, h5⟩ := h
  exact ⟨A, n, cap, h1, ⟨h2, h3, by rw [← h2]; exact cd_len hz, h4⟩, h5⟩
theorem ri_add (w : World) (A1 A2 : Option Addr) (c1 c2 n1 n2 : Nat) (a b : Int) (h1 : IntV w A1 n1 c1 a) (h2 : IntV w A2 n2 c2 b) :
    Calls Tryd.prog 48 #[.agg #[.bool (decide (a < 0)), .slice A1 n1 c1], .agg #[.bool (decide (b < 0)), .slice A2 n2 c2]] w (RetI (a + b) w) := by
  obtain ⟨l1, _, m1, d1⟩ := h1
  obtain ⟨l2, _, m2, d2⟩ := h2
  have hA := add_int a b
  have fin : Calls Tryd.prog 48 #[.agg #[.bool (decide (a < 0)), .slice A1 n1 c1], .agg #[.bool (decide (b < 0)), .slice A2 n2 c2]] w (RetT (addM (decide (a < 0)) (decide (b < 0)) a.natAbs b.natAbs) (addN (decide (a < 0)) (decide (b < 0)) a.natAbs b.natAbs) w) := by
    clear hA
    generalize decide (a < 0) = s1
    generalize decide (b < 0) = s2
    unfold addM addN
    cases s1 <;> cases s2
    · exact ri_add_pp w A1 A2 c1 c2 n1 n2 _ _ l1 l2 m1 m2 d1 d2
    · by_cases hc : b.natAbs ≤ a.natAbs
      · simp only [Bool.false_eq_true, if_false, if_pos hc]
        exact ri_add_pn_ge w A1 A2 c1 c2 n1 n2 _ _ l1 l2 m1 m2 d1 d2 hc
      · simp only [Bool.false_eq_true, if_false, if_neg hc]
        exact ri_add_pn_lt w A1 A2 c1 c2 n1 n2 _ _ l1 l2 m1 m2 d1 d2 (by omega)
    · by_cases hc : b.natAbs ≤ a.natAbs
      · simp only [Bool.true_eq_false, if_false, if_pos hc]
        exact ri_add_np_ge w A1 A2 c1 c2 n1 n2 _ _ l1 l2 m1 m2 d1 d2 hc
      · simp only [Bool.true_eq_false, if_false, if_neg hc]
        exact ri_add_np_lt w A1 A2 c1 c2 n1 n2 _ _ l1 l2 m1 m2 d1 d2 (by omega)
    · exact ri_add_nn w A1 A2 c1 c2 n1 n2 _ _ l1 l2 m1 m2 d1 d2
  exact fin.mono fun e w' h => ret_trim h hA.1 hA.2
end Go.Proofs.YtoiofbpmgihkfaaDoor
