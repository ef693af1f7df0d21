/- matchguardref05: at, trim, plus. -/
import Derived.Test.YtoiofbpmgihkfaaDoorNText
import Derived.Test.YtoiofbpmgihkfaaDoorNDigP
namespace Go.Proofs.YtoiofbpmgihkfaaDoor
open Go.RowKit

/-- digit i of D -/
def gd (D : List Nat) (i : Nat) : Nat := D.getD i 0
/-- The slice v holds the digits D. -/
def DigA (w : World) (A : Option Addr) (D : List Nat) : Prop := D = [] ∨ ∃ b, A = some ⟨b, 0, none⟩ ∧ b < w.heap.size ∧ ∀ i, i < D.length → w.cell? ⟨b, i, none⟩ = some (.int .i64 (gd D i : Nat))
theorem DigA.below {w w' : World} {A : Option Addr} {D : List Nat} (h : DigA w A D) (hb : Below w.heap.size w w') : DigA w' A D := by
  rcases h with h | ⟨b, h1, h2, h3⟩
  · exact .inl h
  · exact .inr ⟨b, h1, Nat.lt_of_lt_of_le h2 hb.size, fun i hi => by rw [hb.cell (p := ⟨b, i, none⟩) h2]; exact h3 i hi⟩
theorem DigA.alloc {w : World} {A : Option Addr} {D : List Nat} (h : DigA w A D) (o : Obj) : DigA (w.alloc o) A D := h.below ((Below.refl _ _).alloc (Nat.le_refl _) _)
theorem DigA.drew {w : World} {A : Option Addr} {D : List Nat} (h : DigA w A D) : DigA w.drew A D := h
theorem DigA.drewN {w : World} {A : Option Addr} {D : List Nat} {n : Nat} (h : DigA w A D) : DigA (w.drewN n) A D := by
  induction n with
  | zero => exact h
  | succ n ih => exact ih
theorem DigA.take {w : World} {A : Option Addr} {D : List Nat} (h : DigA w A D) (k : Nat) : DigA w A (D.take k) := by
  rcases h with rfl | ⟨b, h1, h2, h3⟩
  · exact .inl (by simp)
  · refine .inr ⟨b, h1, h2, fun i hi => ?_⟩
    rw [List.length_take] at hi
    rw [h3 i (by omega), gd, gd, List.getD_eq_getElem?_getD, List.getD_eq_getElem?_getD, List.getElem?_take, if_pos (by omega)]
theorem DigA.at {w : World} {A : Option Addr} {D : List Nat} (h : DigA w A D) (i : Nat) (hi : i < D.length) : ∃ b, A = some ⟨b, 0, none⟩ ∧ b < w.heap.size ∧ w.cell? ⟨b, i, none⟩ = some (.int .i64 (gd D i : Nat)) := by
  rcases h with rfl | ⟨b, h1, h2, h3⟩
  · simp at hi
  · exact ⟨b, h1, h2, h3 i hi⟩
/-- The cells of digits. -/
def dcs (D : List Nat) : List Value := D.map fun d : Nat => Value.int .i64 (d : Int)
theorem dcs_snoc (D : List Nat) (d : Nat) : dcs (D ++ [d]) = dcs D ++ [.int .i64 (d : Int)] := by simp [dcs]
theorem dcs_len (D : List Nat) : (dcs D).length = D.length := by simp [dcs]
theorem dig_own {w : World} {B : Nat} {A : Option Addr} {cap : Nat} {D : List Nat} (h : w.ownsRow B 3 1 (.slice A D.length cap) D.length (dcs D)) : DigA w A D := by
  by_cases h0 : D = []
  · exact .inl h0
  · have hp : 0 < D.length := by cases D with
      | nil => exact absurd rfl h0
      | cons _ _ => simp
    obtain ⟨g, c, hv, hge, hl⟩ := h.form hp
    injection hv with e1 e2 e3
    subst e1
    refine .inr ⟨g, rfl, hl, fun i hi => ?_⟩
    rw [h.cellAt i (by omega)]
    simp [dcs, gd, hi]
theorem own_le {w : World} {B e sz n m : Nat} {A : Option Addr} {cap : Nat} {l : List Value} (h : w.ownsRow B e sz (.slice A m cap) n l) : m ≤ cap := by
  rcases h.2 with ⟨h1, _⟩ | ⟨g, c, cur, h1, _, _, hn, _⟩
  · injection h1 with _ h2 _; omega
  · injection h1 with _ h2 h3; omega

set_option maxRecDepth 100000 in
set_option maxHeartbeats 1000000 in
theorem ri_at (w : World) (A : Option Addr) (cap n : Nat) (D : List Nat) (hn : D.length = n) (_hl : D.length ≤ 1000) (h : DigA w A D) (i : Nat) :
    Calls Tryd.prog 75 #[.slice A n cap, .int .i64 i] w fun e w' => e = .returned (.int .i64 (gd D i : Nat)) ∧ w = w' := by
  subst hn
  by_cases hi : i < D.length
  · obtain ⟨b, rfl, hb, hc⟩ := h.at i hi
    have h1 : (i : Int) < (D.length : Int) := by omega
    go_enter Tryd.func75, Tryd.ntmps75
    go_wp2
    go_ret
    exact ⟨rfl, rfl⟩
  · have h1 : ¬ (i : Int) < (D.length : Int) := by omega
    have e : gd D i = 0 := by rw [gd, List.getD_eq_getElem?_getD, List.getElem?_eq_none (by omega)]; rfl
    rw [e]
    clear e
    go_enter Tryd.func75, Tryd.ntmps75
    go_wp2
    go_ret
    exact ⟨rfl, rfl⟩

/-- trim's end: the digits of what they are worth, the sign where it is not 0 -/
def RetTrim (A : Option Addr) (m : Bool) (n : Nat) (w : World) (e : Ending) (w' : World) : Prop := ∃ cap, e = .returned (.agg #[.bool (m && decide (0 < n)), .slice A (cd n).length cap]) ∧ DigA w A (cd n) ∧ (cd n).length ≤ cap ∧ Below w.heap.size w w'
theorem cd_pos (n : Nat) : decide (0 < (cd n).length) = decide (0 < n) := by
  by_cases h : n = 0
  · rw [h, cd_0]; rfl
  · have := (cd_len_lo h).1
    rw [decide_eq_true this, decide_eq_true (by omega)]
structure ResAt (w w' : World) (B : Nat) : Prop where
  below : Below w.heap.size w w'
  nb : w.heap.size ≤ B
  lt : B < w'.heap.size
  c0 : ∃ b, w'.cell? ⟨B, 0, none⟩ = some (.bool b)
  c1 : ∃ A n c, w'.cell? ⟨B, 1, none⟩ = some (.slice A n c)
  f0 : w'.frozen? ⟨B, 0, none⟩ = false
  f1 : w'.frozen? ⟨B, 1, none⟩ = false
theorem ResAt.drew {w w' : World} {B : Nat} (h : ResAt w w' B) : ResAt w w'.drew B := ⟨h.below.drew, h.nb, h.lt, h.c0, h.c1, h.f0, h.f1⟩
theorem ResAt.drewN {w w' : World} {B n : Nat} (h : ResAt w w' B) : ResAt w (w'.drewN n) B := by
  induction n with
  | zero => exact h
  | succ n ih => exact ih.drew
theorem ResAt.call {w w1 w2 : World} {B : Nat} (h : ResAt w w1 B) (hb : Below w1.heap.size w1 w2) : ResAt w w2 B :=
  ⟨h.below.trans (hb.mono h.below.size), h.nb, Nat.lt_of_lt_of_le h.lt hb.size, by rw [hb.cell (p := ⟨B, 0, none⟩) h.lt]; exact h.c0, by rw [hb.cell (p := ⟨B, 1, none⟩) h.lt]; exact h.c1, by rw [hb.frozen (p := ⟨B, 0, none⟩) h.lt]; exact h.f0, by rw [hb.frozen (p := ⟨B, 1, none⟩) h.lt]; exact h.f1⟩
theorem ResAt.new {w W : World} (hb : Below w.heap.size w W) (b : Bool) (A : Option Addr) (n c : Nat) : ResAt w (W.alloc (.cells #[.bool b, .slice A n c] 70)) W.heap.size :=
  ⟨hb.alloc hb.size _, hb.size, by simp, ⟨b, by simp [go_sem]⟩, ⟨A, n, c, by simp [go_sem]⟩, by simp [go_sem], by simp [go_sem]⟩
set_option maxRecDepth 100000 in
set_option maxHeartbeats 2000000 in
theorem ri_trim (m : Bool) (w : World) (A : Option Addr) (cap n : Nat) (D : List Nat) (hn : D.length = n) (hl : D.length ≤ 1000) (hc : D.length ≤ cap) (hS : Sm D) (h : DigA w A D) :
    Calls Tryd.prog 59 #[.bool m, .slice A n cap] w (RetTrim A m (dv D) w) := by
  subst hn
  have HS := Lib.hid hS
  have HD := Lib.hid h
  clear hS h
  go_enter Tryd.func59, Tryd.ntmps59
  go_wp2
  go_loopw [1] (fun v w' => ∃ k : Nat, k ≤ D.length ∧ v = .slice A k cap ∧ Hid (dv (D.take k) = dv D) ∧ ResAt w w' w.heap.size) (fun v _ => lenV v)
  case atStart => exact ⟨D.length, Nat.le_refl _, rfl, Lib.hid (by rw [List.take_length]), ResAt.new (Below.refl _ _) _ _ _ _⟩
  case round =>
    obtain ⟨k, hk, rfl, HK, hR⟩ := hrel
    have HR := Lib.hid hR
    obtain ⟨r0, c0⟩ := hR.c0
    obtain ⟨r1, r2, r3, c1⟩ := hR.c1
    have f0 := hR.f0
    have f1 := hR.f1
    clear hR
    cases k with
    | zero =>
      have h0 : dv D = 0 := by have := HK.out; rw [List.take_zero] at this; exact this.symm
      have H0 := Lib.hid h0
      clear h0
      cases m
      all_goals
        go_wp2
        refine bodyPost_ret (v := .agg #[.bool false, .slice A 0 cap]) (by simp [results, Tryd.results59, go_sem, c0, c1]) rfl ?_
        refine ⟨cap, ?_, ?_, ?_, store2 HR.out.below (Nat.le_refl _) _ _⟩
        · rw [H0.out, cd_0]; rfl
        · rw [H0.out, cd_0]; exact .inl rfl
        · rw [H0.out, cd_0]; exact Nat.zero_le _
    | succ k =>
      obtain ⟨b, hA, hb, hcell⟩ := HD.out.at k (by omega)
      subst hA
      have hcell2 : wr.cell? ⟨b, k, none⟩ = some (.int .i64 (gd D k : Nat)) := by rw [HR.out.below.cell (p := ⟨b, k, none⟩) hb]; exact hcell
      have e1 : ((k + 1 : Nat) : Int) = (k : Int) + 1 := by omega
      have e2 : (k : Int) + 1 - 1 = k := by omega
      have e3 : (0 : Int) < (k : Int) + 1 := by omega
      have e4 : (k : Int) ≤ cap := by omega
      clear hcell hb
      by_cases hz : gd D k = 0
      · have HZ := Lib.hid hz
        rw [hz] at hcell2
        clear hz
        go_wp2
        go_roundw
        case rel =>
          go_light
          exact ⟨k, by omega, rfl, Lib.hid (by rw [← HK.out]; exact dv_drop_zero HZ.out), HR.out⟩
        case measure => simp [lenV]
      · have HU : Hid (D.take (k + 1) = cd (dv D)) := Lib.hid (by
          have := cd_unique (sm_take HS.out (k + 1)) k (by rw [List.length_take]; omega) (by rw [List.getD_eq_getElem?_getD, List.getElem?_take, if_pos (by omega), ← List.getD_eq_getElem?_getD]; exact hz)
          rw [HK.out] at this
          exact this)
        have t1 : (((gd D k : Nat) : Int) == 0) = false := by simpa using hz
        have hl2 : Hid ((cd (dv D)).length = k + 1) := Lib.hid (by rw [← HU.out, List.length_take]; omega)
        clear hz
        have hpos : Hid (decide (0 < dv D) = true) := Lib.hid (by rw [← cd_pos, hl2.out]; simp)
        have hdig : DigA w (some ⟨b, 0, none⟩) (cd (dv D)) := by rw [← HU.out]; exact HD.out.take _
        cases m
        · go_wp2
          refine bodyPost_ret (v := .agg #[.bool false, .slice (some ⟨b, 0, none⟩) (k + 1) cap]) (by simp [results, Tryd.results59, go_sem, c0, c1]) rfl ?_
          refine ⟨cap, by rw [hl2.out]; rfl, hdig, by rw [hl2.out]; omega, store2 HR.out.below (Nat.le_refl _) _ _⟩
        · go_wp2
          refine bodyPost_ret (v := .agg #[.bool true, .slice (some ⟨b, 0, none⟩) (k + 1) cap]) (by simp [results, Tryd.results59, go_sem, c0, c1]) rfl ?_
          refine ⟨cap, by rw [hl2.out, hpos.out]; rfl, hdig, by rw [hl2.out]; omega, store2 HR.out.below (Nat.le_refl _) _ _⟩
end Go.Proofs.YtoiofbpmgihkfaaDoor
