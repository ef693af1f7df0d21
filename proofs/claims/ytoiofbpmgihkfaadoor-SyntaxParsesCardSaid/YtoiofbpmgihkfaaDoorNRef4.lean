/- matchguardref05: Neg, Sub, Compare, Of. -/
import Derived.Test.YtoiofbpmgihkfaaDoorNAdd
namespace Go.Proofs.YtoiofbpmgihkfaaDoor
open Go.RowKit

def Bd (z : Int) : Prop := z.natAbs < 10 ^ 800
/-- An Int in memory, with its sign. -/
structure IntS (w : World) (s : Bool) (A : Option Addr) (n c : Nat) (z : Int) : Prop where
  sign : decide (z < 0) = s
  v : IntV w A n c z
theorem IntS.below {w w' : World} {s : Bool} {A : Option Addr} {n c : Nat} {z : Int} (h : IntS w s A n c z) (hb : Below w.heap.size w w') : IntS w' s A n c z := ⟨h.1, h.2.below hb⟩
theorem IntS.alloc {w : World} {s : Bool} {A : Option Addr} {n c : Nat} {z : Int} (h : IntS w s A n c z) (o : Obj) : IntS (w.alloc o) s A n c z := h.below ((Below.refl _ _).alloc (Nat.le_refl _) _)
/-- An Int comes back, in memory that can be read; nothing that there was is changed. -/
def RetF (z : Int) (w : World) (e : Ending) (w' : World) : Prop := ∃ s A n c, e = .returned (.agg #[.bool s, .slice A n c]) ∧ IntS w' s A n c z ∧ Below w.heap.size w w'
theorem DigA.store {w : World} {A : Option Addr} {D : List Nat} (h : DigA w A D) {b : Nat} {x : Bool} (c0 : w.cell? ⟨b, 0, none⟩ = some (.bool x)) (y : Bool) (v : Value) : DigA ((w.setCell ⟨b, 0, none⟩ (.bool y)).setCell ⟨b, 1, none⟩ v) A D := by
  by_cases h0 : D = []
  · exact .inl h0
  · have hp : 0 < D.length := by cases D with
      | nil => exact absurd rfl h0
      | cons _ _ => simp
    obtain ⟨g, hg, _, hc⟩ := h.at 0 hp
    have hne : ∀ ad, A = some ad → ad.block ≠ b := fun ad e e2 => by
      rw [hg] at e; injection e with e; subst e; simp only at e2; subst e2
      rw [c0] at hc; injection hc with hc; cases hc
    exact (h.set hne 0 _).set hne 1 _
theorem IntS.store {w : World} {s : Bool} {A : Option Addr} {n c : Nat} {z : Int} (h : IntS w s A n c z) {b : Nat} {x : Bool} (c0 : w.cell? ⟨b, 0, none⟩ = some (.bool x)) (y : Bool) (v : Value) : IntS ((w.setCell ⟨b, 0, none⟩ (.bool y)).setCell ⟨b, 1, none⟩ v) s A n c z :=
  ⟨h.1, h.2.1, h.2.2.1, h.2.2.2.1, h.2.2.2.2.store c0 y v⟩
theorem ri_addF (w : World) (s1 s2 : Bool) (A1 A2 : Option Addr) (c1 c2 n1 n2 : Nat) (a b : Int) (hz : Bd (a + b)) (h1 : IntS w s1 A1 n1 c1 a) (h2 : IntS w s2 A2 n2 c2 b) :
    Calls Tryd.prog 48 #[.agg #[.bool s1, .slice A1 n1 c1], .agg #[.bool s2, .slice A2 n2 c2]] w (RetF (a + b) w) := by
  obtain ⟨e1, v1⟩ := h1
  obtain ⟨e2, v2⟩ := h2
  subst e1 e2
  exact (ri_add w A1 A2 c1 c2 n1 n2 a b v1 v2).mono fun _ _ h => by
    obtain ⟨A, n, c, h1, h2, h3⟩ := h.form hz
    exact ⟨_, A, n, c, h1, ⟨rfl, h2⟩, h3⟩
set_option maxRecDepth 100000 in
set_option maxHeartbeats 1000000 in
theorem ri_neg0 (s : Bool) (w : World) (A : Option Addr) (c n k : Nat) (hn : (cd k).length = n) (hl : n ≤ 800) (hc : n ≤ c) (h : DigA w A (cd k)) :
    Calls Tryd.prog 86 #[.agg #[.bool s, .slice A n c]] w (RetT (!s) k w) := by
  have H := Lib.hid h
  have HN := Lib.hid hn
  have DK := Lib.hid (dv_cd k)
  clear h hn
  cases s
  all_goals
    go_enter Tryd.func86, Tryd.ntmps86
    go_wp2_with (go_at_call 59; refine (ri_trim _ _ A c _ (cd k) HN.out (by rw [HN.out]; omega) (by rw [HN.out]; exact hc) (sm_cd k) ((H.out.alloc _).alloc _)).mono ?_; rintro e w3 ⟨cap', rfl, hD3, hl3, hb3⟩; rw [DK.out] at hD3 hl3; rw [DK.out]; have HD3 := Lib.hid hD3; obtain ⟨hc3, hf3, hz3⟩ := after (w.heap.size + 2) hb3 (by simp) (by simp); clear hD3)
  · refine bodyPost_ret (v := .agg #[.bool (true && decide (0 < k)), .slice A (cd k).length cap']) (by simp [results, Tryd.results86, go_sem, hc3]) rfl ⟨A, cap', rfl, ?_, hl3, ?_⟩
    · exact (HD3.out.below hb3).store (by rw [hc3 _ _ (by omega)]; simp [go_sem]; rfl) _ _
    · exact store2 ((((Below.refl _ _).alloc (by simp) _).alloc (by simp) _).trans (hb3.mono (by simp; omega))) (by omega) _ _
  · refine bodyPost_ret (v := .agg #[.bool (false && decide (0 < k)), .slice A (cd k).length cap']) (by simp [results, Tryd.results86, go_sem, hc3]) rfl ⟨A, cap', rfl, ?_, hl3, ?_⟩
    · exact (HD3.out.below hb3).store (by rw [hc3 _ _ (by omega)]; simp [go_sem]; rfl) _ _
    · exact store2 ((((Below.refl _ _).alloc (by simp) _).alloc (by simp) _).trans (hb3.mono (by simp; omega))) (by omega) _ _
theorem ri_neg (w : World) (s : Bool) (A : Option Addr) (c n : Nat) (z : Int) (h : IntS w s A n c z) :
    Calls Tryd.prog 86 #[.agg #[.bool s, .slice A n c]] w (RetF (-z) w) := by
  obtain ⟨hs, h1, h2, h3, h4⟩ := h
  refine (ri_neg0 s w A c n z.natAbs h1 h3 h2 h4).mono fun e w' h => ?_
  obtain ⟨A', cap', e1, e2, e3, e4⟩ := h
  have hk : (-z).natAbs = z.natAbs := Int.natAbs_neg z
  refine ⟨_, A', _, cap', e1, ⟨?_, by rw [hk], e3, by omega, by rw [hk]; exact e2⟩, e4⟩
  rw [← hs]
  by_cases hz : z < 0
  · simp only [hz, decide_true, Bool.not_true, Bool.false_and]; rw [decide_eq_false_iff_not]; omega
  · simp only [hz, decide_false, Bool.not_false, Bool.true_and]; rw [decide_eq_decide]; omega
set_option maxRecDepth 100000 in
set_option maxHeartbeats 2000000 in
theorem ri_sub (w : World) (s1 s2 : Bool) (A1 A2 : Option Addr) (c1 c2 n1 n2 : Nat) (a b : Int) (hz : Bd (a - b)) (h1 : IntS w s1 A1 n1 c1 a) (h2 : IntS w s2 A2 n2 c2 b) :
    Calls Tryd.prog 76 #[.agg #[.bool s1, .slice A1 n1 c1], .agg #[.bool s2, .slice A2 n2 c2]] w (RetF (a - b) w) := by
  have H1 := Lib.hid h1
  have H2 := Lib.hid h2
  have ES : Hid (a + -b = a - b) := Lib.hid (by omega)
  clear h1 h2
  go_enter Tryd.func76, Tryd.ntmps76
  go_upto_region 1 with fail
  obtain ⟨W, hW⟩ : ∃ W, W = ((w.alloc (.cells #[.bool s1, .slice A1 n1 c1] 70)).alloc (.cells #[.bool s2, .slice A2 n2 c2] 70)).alloc (.cells #[.bool false, .slice none 0 0] 70) := ⟨_, rfl⟩
  have HX : Hid (Boxes w (.bool s1) (.slice A1 n1 c1) (.bool s2) (.slice A2 n2 c2) W) := Lib.hid ⟨by rw [hW]; exact (((Below.refl _ _).alloc (by simp) _).alloc (by simp) _).alloc (by simp; omega) _, by rw [hW]; simp, by rw [hW]; simp [go_sem], by rw [hW]; simp [go_sem], by rw [hW]; simp [go_sem], by rw [hW]; simp [go_sem]⟩
  have r0 : W.cell? ⟨w.heap.size + 1 + 1, 0, none⟩ = some (.bool false) := by rw [hW]; simp [go_sem]
  have r1 : W.cell? ⟨w.heap.size + 1 + 1, 1, none⟩ = some (.slice none 0 0) := by rw [hW]; simp [go_sem]
  have f0 : W.frozen? ⟨w.heap.size + 1 + 1, 0, none⟩ = false := by rw [hW]; simp [go_sem]
  have f1 : W.frozen? ⟨w.heap.size + 1 + 1, 1, none⟩ = false := by rw [hW]; simp [go_sem]
  rw [← hW]
  clear hW
  have HZ := Lib.hid (show Bd (a + -b) by rw [ES.out]; exact hz)
  go_region_held3 (fun w' => Boxes w (.bool s1) (.slice A1 n1 c1) (.bool s2) (.slice A2 n2 c2) w' ∧ w'.cell? ⟨w.heap.size, 0, none⟩ = some (.bool s1) ∧ w'.cell? ⟨w.heap.size, 1, none⟩ = some (.slice A1 n1 c1) ∧ w'.cell? ⟨w.heap.size + 1, 0, none⟩ = some (.bool s2) ∧ w'.cell? ⟨w.heap.size + 1, 1, none⟩ = some (.slice A2 n2 c2))
    (first
      | exact (Boxes.drew HX.out).all
      | exact (Boxes.call (And.left (by assumption)) (by assumption)).all
      | exact (Boxes.set (And.left (by assumption)) _ _).all
      | exact (Boxes.set (Boxes.set (And.left (by assumption)) _ _) _ _).all)
    (first
      | (go_at_call 86; refine (ri_neg _ s2 A2 c2 n2 b (H2.out.below (Boxes.below (And.left (by assumption))))).mono ?_; rintro e w2 ⟨s3, A, n, cap, rfl, hV, hb2⟩; have HV := Lib.hid hV; obtain ⟨k0, k1, l0, l1⟩ := Boxes.cells (Boxes.drew HX.out) hb2 r0 r1 f0 f1; have HX2 := Lib.hid (Boxes.call (Boxes.drew HX.out) hb2); clear hV)
      | (go_at_call 48; refine (ri_addF _ s1 s3 A1 A c1 cap n1 n a (-b) HZ.out (H1.out.below (Boxes.below (And.left (by assumption)))) HV.out).mono ?_; rintro e w3 ⟨s4, A', n', cap', rfl, hV3, hb3⟩; have HV3 := Lib.hid hV3; obtain ⟨k2, k3, l2, l3⟩ := Boxes.cells HX2.out hb3 k0 k1 l0 l1; have HX3 := Lib.hid (Boxes.call HX2.out hb3); clear hV3))
  all_goals go_wp2_with fail
  have hsz := HX3.out.size
  have hv := HV3.out.store k2 s4 (.slice A' n' cap')
  rw [ES.out] at hv
  refine bodyPost_ret (v := .agg #[.bool s4, .slice A' n' cap']) (by simp [results, Tryd.results76, go_sem, k2, k3]) rfl ⟨s4, A', n', cap', rfl, hv, ?_⟩
  exact store2 HX3.out.below (by omega) _ _
theorem cd_len_zero {z : Int} {n : Nat} (h : (cd z.natAbs).length = n) : (n = 0 ↔ z = 0) := by
  subst h
  constructor
  · intro h
    by_cases h0 : z.natAbs = 0
    · omega
    · have := (cd_len_lo h0).1; omega
  · rintro rfl; simp [cd]
set_option maxRecDepth 100000 in
set_option maxHeartbeats 2000000 in
theorem ri_order (w : World) (s1 s2 : Bool) (A1 A2 : Option Addr) (c1 c2 n1 n2 : Nat) (a b : Int) (hz : Bd (a - b)) (h1 : IntS w s1 A1 n1 c1 a) (h2 : IntS w s2 A2 n2 c2 b) :
    Calls Tryd.prog 63 #[.agg #[.bool s1, .slice A1 n1 c1], .agg #[.bool s2, .slice A2 n2 c2]] w (RetX (.int .i64 (sgn a b)) w) := by
  have H1 := Lib.hid h1
  have H2 := Lib.hid h2
  clear h1 h2
  go_enter Tryd.func63, Tryd.ntmps63
  go_upto_region 2 with (go_at_call 76; refine (ri_sub _ s1 s2 A1 A2 c1 c2 n1 n2 a b hz ((H1.out.alloc _).alloc _) ((H2.out.alloc _).alloc _)).mono ?_; rintro e w2 ⟨s, A, n, cap, rfl, hV, hb2⟩)
  have hbb : Below w.heap.size w w2 := (((Below.refl _ _).alloc (by simp) _).alloc (by simp) _).trans (hb2.mono (by simp; omega))
  have hsg := hV.sign
  have hln := cd_len_zero hV.v.1
  clear hb2 hV
  by_cases hlt : a < b
  · have e : Hid (sgn a b = -1) := Lib.hid (by unfold sgn; rw [if_neg (by omega), if_pos hlt])
    obtain rfl : true = s := by rw [← hsg]; simp; omega
    clear hsg hln hlt
    go_wp2
    go_ret
    exact ⟨by rw [e.out]; rfl, hbb.alloc hbb.size _⟩
  · obtain rfl : false = s := by rw [← hsg]; simp; omega
    by_cases heq : a = b
    · have e : Hid (sgn a b = 0) := Lib.hid (by unfold sgn; rw [if_pos heq])
      obtain rfl : n = 0 := hln.2 (by omega)
      clear hsg hln hlt heq
      go_wp2
      go_ret
      exact ⟨by rw [e.out]; rfl, hbb.alloc hbb.size _⟩
    · have e : Hid (sgn a b = 1) := Lib.hid (by unfold sgn; rw [if_neg heq, if_neg hlt])
      have hn : (0 : Int) < (n : Int) := by
        have : n ≠ 0 := fun h => by have := hln.1 h; omega
        omega
      clear hsg hln hlt heq
      go_wp2
      go_ret
      exact ⟨by rw [e.out]; rfl, hbb.alloc hbb.size _⟩
end Go.Proofs.YtoiofbpmgihkfaaDoor
