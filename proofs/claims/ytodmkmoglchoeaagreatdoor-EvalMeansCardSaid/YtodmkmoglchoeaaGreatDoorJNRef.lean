/- Contracts, joined: NRef, NRef2, NRef3, NAdd, NRef4, NOf, NFrom, NLim. -/
import Derived.Test.YtodmkmoglchoeaaGreatDoorJNTx
import Derived.Test.YtodmkmoglchoeaaGreatDoorJNum
namespace Go.Proofs.YtodmkmoglchoeaaGreatDoor
/- matchguardref05: at, trim, plus. -/
section
open Go.RowKit

/-- digit i of D -/
def gd (D : List Nat) (i : Nat) : Nat := D.getD i 0
/-- The slice v holds the digits D. -/
def DigA (w : World) (A : Option Addr) (D : List Nat) : Prop := D = [] ∨ ∃ b, A = some ⟨b, 0, none⟩ ∧ b < w.heap.size ∧ ∀ i, i < D.length → w.cell? ⟨b, i, none⟩ = some (.int .i64 (gd D i : Nat))
theorem DigA.below {w w' : World} {A : Option Addr} {D : List Nat} (h : DigA w A D) (hb : Below w.heap.size w w') : DigA w' A D := by
  rcases h with h | ⟨b, h1, h2, h3⟩
  · exact .inl h
  · exact .inr ⟨b, h1, Nat.lt_of_lt_of_le h2 hb.size, fun i hi => by rw [hb.cell (p := ⟨b, i, none⟩) h2]; exact h3 i hi⟩
theorem DigA.alloc {w : World} {A : Option Addr} {D : List Nat} (h : DigA w A D) (o : Obj) : DigA (w.alloc o) A D := h.below ((Below.refl _ _).alloc (Nat.le_refl _) _)
theorem DigA.drew {w : World} {A : Option Addr} {D : List Nat} (h : DigA w A D) : DigA w.drew A D := h
theorem DigA.drewN {w : World} {A : Option Addr} {D : List Nat} {n : Nat} (h : DigA w A D) : DigA (w.drewN n) A D := by
  induction n with
  | zero => exact h
  | succ n ih => exact ih
theorem DigA.take {w : World} {A : Option Addr} {D : List Nat} (h : DigA w A D) (k : Nat) : DigA w A (D.take k) := by
  rcases h with rfl | ⟨b, h1, h2, h3⟩
  · exact .inl (by simp)
  · refine .inr ⟨b, h1, h2, fun i hi => ?_⟩
    rw [List.length_take] at hi
    rw [h3 i (by omega), gd, gd, List.getD_eq_getElem?_getD, List.getD_eq_getElem?_getD, List.getElem?_take, if_pos (by omega)]
theorem DigA.at {w : World} {A : Option Addr} {D : List Nat} (h : DigA w A D) (i : Nat) (hi : i < D.length) : ∃ b, A = some ⟨b, 0, none⟩ ∧ b < w.heap.size ∧ w.cell? ⟨b, i, none⟩ = some (.int .i64 (gd D i : Nat)) := by
  rcases h with rfl | ⟨b, h1, h2, h3⟩
  · simp at hi
  · exact ⟨b, h1, h2, h3 i hi⟩
/-- The cells of digits. -/
def dcs (D : List Nat) : List Value := D.map fun d : Nat => Value.int .i64 (d : Int)
theorem dcs_snoc (D : List Nat) (d : Nat) : dcs (D ++ [d]) = dcs D ++ [.int .i64 (d : Int)] := by simp [dcs]
theorem dcs_len (D : List Nat) : (dcs D).length = D.length := by simp [dcs]
theorem dig_own {w : World} {B : Nat} {A : Option Addr} {cap : Nat} {D : List Nat} (h : w.ownsRow B 3 1 (.slice A D.length cap) D.length (dcs D)) : DigA w A D := by
  by_cases h0 : D = []
  · exact .inl h0
  · have hp : 0 < D.length := by cases D with
      | nil => exact absurd rfl h0
      | cons _ _ => simp
    obtain ⟨g, c, hv, hge, hl⟩ := h.form hp
    injection hv with e1 e2 e3
    subst e1
    refine .inr ⟨g, rfl, hl, fun i hi => ?_⟩
    rw [h.cellAt i (by omega)]
    simp [dcs, gd, hi]
theorem own_le {w : World} {B e sz n m : Nat} {A : Option Addr} {cap : Nat} {l : List Value} (h : w.ownsRow B e sz (.slice A m cap) n l) : m ≤ cap := by
  rcases h.2 with ⟨h1, _⟩ | ⟨g, c, cur, h1, _, _, hn, _⟩
  · injection h1 with _ h2 _; omega
  · injection h1 with _ h2 h3; omega

set_option maxRecDepth 100000 in
set_option maxHeartbeats 1000000 in
theorem ri_at (w : World) (A : Option Addr) (cap n : Nat) (D : List Nat) (hn : D.length = n) (_hl : D.length ≤ 1000) (h : DigA w A D) (i : Nat) :
    Calls Tryz.prog 156 #[.slice A n cap, .int .i64 i] w fun e w' => e = .returned (.int .i64 (gd D i : Nat)) ∧ w = w' := by
  subst hn
  by_cases hi : i < D.length
  · obtain ⟨b, rfl, hb, hc⟩ := h.at i hi
    have h1 : (i : Int) < (D.length : Int) := by omega
    go_enter Tryz.func156, Tryz.ntmps156
    go_wp2
    go_ret
    exact ⟨rfl, rfl⟩
  · have h1 : ¬ (i : Int) < (D.length : Int) := by omega
    have e : gd D i = 0 := by rw [gd, List.getD_eq_getElem?_getD, List.getElem?_eq_none (by omega)]; rfl
    rw [e]
    clear e
    go_enter Tryz.func156, Tryz.ntmps156
    go_wp2
    go_ret
    exact ⟨rfl, rfl⟩

/-- trim's end: the digits of what they are worth, the sign where it is not 0 -/
def RetTrim (A : Option Addr) (m : Bool) (n : Nat) (w : World) (e : Ending) (w' : World) : Prop := ∃ cap, e = .returned (.agg #[.bool (m && decide (0 < n)), .slice A (cd n).length cap]) ∧ DigA w A (cd n) ∧ (cd n).length ≤ cap ∧ Below w.heap.size w w'
theorem cd_pos (n : Nat) : decide (0 < (cd n).length) = decide (0 < n) := by
  by_cases h : n = 0
  · rw [h, cd_0]; rfl
  · have := (cd_len_lo h).1
    rw [decide_eq_true this, decide_eq_true (by omega)]
structure ResAt (w w' : World) (B : Nat) : Prop where
  below : Below w.heap.size w w'
  nb : w.heap.size ≤ B
  lt : B < w'.heap.size
  c0 : ∃ b, w'.cell? ⟨B, 0, none⟩ = some (.bool b)
  c1 : ∃ A n c, w'.cell? ⟨B, 1, none⟩ = some (.slice A n c)
  f0 : w'.frozen? ⟨B, 0, none⟩ = false
  f1 : w'.frozen? ⟨B, 1, none⟩ = false
theorem ResAt.drew {w w' : World} {B : Nat} (h : ResAt w w' B) : ResAt w w'.drew B := ⟨h.below.drew, h.nb, h.lt, h.c0, h.c1, h.f0, h.f1⟩
theorem ResAt.drewN {w w' : World} {B n : Nat} (h : ResAt w w' B) : ResAt w (w'.drewN n) B := by
  induction n with
  | zero => exact h
  | succ n ih => exact ih.drew
theorem ResAt.call {w w1 w2 : World} {B : Nat} (h : ResAt w w1 B) (hb : Below w1.heap.size w1 w2) : ResAt w w2 B :=
  ⟨h.below.trans (hb.mono h.below.size), h.nb, Nat.lt_of_lt_of_le h.lt hb.size, by rw [hb.cell (p := ⟨B, 0, none⟩) h.lt]; exact h.c0, by rw [hb.cell (p := ⟨B, 1, none⟩) h.lt]; exact h.c1, by rw [hb.frozen (p := ⟨B, 0, none⟩) h.lt]; exact h.f0, by rw [hb.frozen (p := ⟨B, 1, none⟩) h.lt]; exact h.f1⟩
theorem ResAt.new {w W : World} (hb : Below w.heap.size w W) (b : Bool) (A : Option Addr) (n c : Nat) : ResAt w (W.alloc (.cells #[.bool b, .slice A n c] 197)) W.heap.size :=
  ⟨hb.alloc hb.size _, hb.size, by simp, ⟨b, by simp [go_sem]⟩, ⟨A, n, c, by simp [go_sem]⟩, by simp [go_sem], by simp [go_sem]⟩
set_option maxRecDepth 100000 in
set_option maxHeartbeats 2000000 in
theorem ri_trim (m : Bool) (w : World) (A : Option Addr) (cap n : Nat) (D : List Nat) (hn : D.length = n) (hl : D.length ≤ 1000) (hc : D.length ≤ cap) (hS : Sm D) (h : DigA w A D) :
    Calls Tryz.prog 139 #[.bool m, .slice A n cap] w (RetTrim A m (dv D) w) := by
  subst hn
  have HS := Lib.hid hS
  have HD := Lib.hid h
  clear hS h
  go_enter Tryz.func139, Tryz.ntmps139
  go_wp2
  go_loopw [1] (fun v w' => ∃ k : Nat, k ≤ D.length ∧ v = .slice A k cap ∧ Hid (dv (D.take k) = dv D) ∧ ResAt w w' w.heap.size) (fun v _ => lenV v)
  case atStart => exact ⟨D.length, Nat.le_refl _, rfl, Lib.hid (by rw [List.take_length]), ResAt.new (Below.refl _ _) _ _ _ _⟩
  case round =>
    obtain ⟨k, hk, rfl, HK, hR⟩ := hrel
    have HR := Lib.hid hR
    obtain ⟨r0, c0⟩ := hR.c0
    obtain ⟨r1, r2, r3, c1⟩ := hR.c1
    have f0 := hR.f0
    have f1 := hR.f1
    clear hR
    cases k with
    | zero =>
      have h0 : dv D = 0 := by have := HK.out; rw [List.take_zero] at this; exact this.symm
      have H0 := Lib.hid h0
      clear h0
      cases m
      all_goals
        go_wp2
        refine bodyPost_ret (v := .agg #[.bool false, .slice A 0 cap]) (by simp [results, Tryz.results139, go_sem, c0, c1]) rfl ?_
        refine ⟨cap, ?_, ?_, ?_, store2 HR.out.below (Nat.le_refl _) _ _⟩
        · rw [H0.out, cd_0]; rfl
        · rw [H0.out, cd_0]; exact .inl rfl
        · rw [H0.out, cd_0]; exact Nat.zero_le _
    | succ k =>
      obtain ⟨b, hA, hb, hcell⟩ := HD.out.at k (by omega)
      subst hA
      have hcell2 : wr.cell? ⟨b, k, none⟩ = some (.int .i64 (gd D k : Nat)) := by rw [HR.out.below.cell (p := ⟨b, k, none⟩) hb]; exact hcell
      have e1 : ((k + 1 : Nat) : Int) = (k : Int) + 1 := by omega
      have e2 : (k : Int) + 1 - 1 = k := by omega
      have e3 : (0 : Int) < (k : Int) + 1 := by omega
      have e4 : (k : Int) ≤ cap := by omega
      clear hcell hb
      by_cases hz : gd D k = 0
      · have HZ := Lib.hid hz
        rw [hz] at hcell2
        clear hz
        go_wp2
        go_roundw
        case rel =>
          go_light
          exact ⟨k, by omega, rfl, Lib.hid (by rw [← HK.out]; exact dv_drop_zero HZ.out), HR.out⟩
        case measure => simp [lenV]
      · have HU : Hid (D.take (k + 1) = cd (dv D)) := Lib.hid (by
          have := cd_unique (sm_take HS.out (k + 1)) k (by rw [List.length_take]; omega) (by rw [List.getD_eq_getElem?_getD, List.getElem?_take, if_pos (by omega), ← List.getD_eq_getElem?_getD]; exact hz)
          rw [HK.out] at this
          exact this)
        have t1 : (((gd D k : Nat) : Int) == 0) = false := by simpa using hz
        have hl2 : Hid ((cd (dv D)).length = k + 1) := Lib.hid (by rw [← HU.out, List.length_take]; omega)
        clear hz
        have hpos : Hid (decide (0 < dv D) = true) := Lib.hid (by rw [← cd_pos, hl2.out]; simp)
        have hdig : DigA w (some ⟨b, 0, none⟩) (cd (dv D)) := by rw [← HU.out]; exact HD.out.take _
        cases m
        · go_wp2
          refine bodyPost_ret (v := .agg #[.bool false, .slice (some ⟨b, 0, none⟩) (k + 1) cap]) (by simp [results, Tryz.results139, go_sem, c0, c1]) rfl ?_
          refine ⟨cap, by rw [hl2.out]; rfl, hdig, by rw [hl2.out]; omega, store2 HR.out.below (Nat.le_refl _) _ _⟩
        · go_wp2
          refine bodyPost_ret (v := .agg #[.bool true, .slice (some ⟨b, 0, none⟩) (k + 1) cap]) (by simp [results, Tryz.results139, go_sem, c0, c1]) rfl ?_
          refine ⟨cap, by rw [hl2.out, hpos.out]; rfl, hdig, by rw [hl2.out]; omega, store2 HR.out.below (Nat.le_refl _) _ _⟩
end
/- matchguardref05: plus, minus, compare. -/
section
open Go.RowKit

/-- a slice with digits comes back -/
def RetDig (n L : Nat) (w : World) (e : Ending) (w' : World) : Prop := ∃ A cap R, e = .returned (.slice A L cap) ∧ R.length = L ∧ L ≤ cap ∧ Sm R ∧ dv R = n ∧ DigA w' A R ∧ (∀ ad, A = some ad → w.heap.size ≤ ad.block) ∧ Below w.heap.size w w'
theorem app_below {w W W2 : World} {v : Value} {n : Nat} {l : List Value} (hb : Below w.heap.size w W) (h : W.ownsRow w.heap.size 3 1 v n l) (o : Obj) (hg : (W.alloc o).grownBy W2 v.ownBlock) : Below w.heap.size w W2 :=
  (hb.alloc hb.size o).grown hg (Nat.le_trans hb.size (by simp)) (fun _ hk => own_block_ge h hk)
set_option maxRecDepth 100000 in
set_option maxHeartbeats 2000000 in
theorem ri_plus (w : World) (A1 A2 : Option Addr) (c1 c2 n1 n2 : Nat) (D1 D2 : List Nat) (hn1 : D1.length = n1) (hn2 : D2.length = n2) (hl1 : D1.length ≤ 900) (hl2 : D2.length ≤ 900) (hS1 : Sm D1) (hS2 : Sm D2) (h1 : DigA w A1 D1) (h2 : DigA w A2 D2) :
    Calls Tryz.prog 140 #[.slice A1 n1 c1, .slice A2 n2 c2] w (RetDig (dv D1 + dv D2) (max n1 n2 + 1) w) := by
  subst hn1 hn2
  obtain ⟨i0, hi0⟩ : ∃ i, Tryz.prog.info? 3 = some i := Option.isSome_iff_exists.1 (by kernel_rfl)
  have hz0 : i0.zero = some (.int .i64 0) := by
    have : (Tryz.prog.info? 3).map (·.zero) = some (some (.int .i64 0)) := by kernel_rfl
    rw [hi0] at this; simpa using this
  have hy1 : i0.size = 1 := by
    have : (Tryz.prog.info? 3).map (·.size) = some 1 := by kernel_rfl
    rw [hi0] at this; simpa using this
  have hy2 : i0.bytes = 8 := by
    have : (Tryz.prog.info? 3).map (·.bytes) = some 8 := by kernel_rfl
    rw [hi0] at this; simpa using this
  have HI := Lib.hid hi0
  have HZ := Lib.hid hz0
  have HY1 := Lib.hid hy1
  have HY2 := Lib.hid hy2
  have HS1 := Lib.hid hS1
  have HS2 := Lib.hid hS2
  have H1 := Lib.hid h1
  have H2 := Lib.hid h2
  obtain ⟨m, hm⟩ : ∃ m, max D1.length D2.length = m := ⟨_, rfl⟩
  have hm1 : D1.length ≤ m := by omega
  have hm2 : D2.length ≤ m := by omega
  have hm3 : m ≤ 900 := by omega
  have hmx : max (D1.length : Int) (D2.length : Int) = m := by omega
  rw [hm]
  clear hi0 hz0 hy1 hy2 hS1 hS2 h1 h2 hm
  go_enter Tryz.func140, Tryz.ntmps140
  go_wp2
  go_loopw [5, 6, 7] (fun v c i w' => ∃ (R : List Nat) (cc : Nat), R.length ≤ m + 1 ∧ i = .int .i64 (R.length : Nat) ∧ c = .int .i64 (cc : Nat) ∧ cc ≤ 1 ∧ Sm R ∧ Hid (dv R + cc * 10 ^ R.length = dv (D1.take R.length) + dv (D2.take R.length)) ∧ Below w.heap.size w w' ∧ w'.ownsRow w.heap.size 3 1 v R.length (dcs R)) (fun _ _ i _ => m + 1 - (intOf i).toNat)
  case atStart => exact ⟨[], 0, by simp, by simp, by simp, by omega, (fun x hx => by cases hx), Lib.hid (by simp [dv]), Below.refl _ _, World.ownsRow_nil _ _ _ _⟩
  case round =>
    obtain ⟨R, cc, hR, rfl, rfl, hcc, hSR, HK, hB, hO⟩ := hrel
    obtain ⟨AR, capR, rfl⟩ := own_form2 hO
    have HSR := Lib.hid hSR
    have HB := Lib.hid hB
    have HO := Lib.hid hO
    clear hSR hB hO
    by_cases hlt : (R.length : Int) < (m : Int) + 1
    · obtain ⟨x, hx⟩ : ∃ x, gd D1 R.length = x := ⟨_, rfl⟩
      obtain ⟨y, hy⟩ : ∃ y, gd D2 R.length = y := ⟨_, rfl⟩
      have hx9 : x < 10 := by rw [← hx]; exact sm_getD HS1.out _
      have hy9 : y < 10 := by rw [← hy]; exact sm_getD HS2.out _
      have HX := Lib.hid hx
      have HY := Lib.hid hy
      clear hx hy
      have ED : Hid (((x : Int) + (y : Int) + (cc : Int)) % 10 = (((x + y + cc) % 10 : Nat) : Int)) := Lib.hid (by omega)
      have EQ : Hid (((x : Int) + (y : Int) + (cc : Int)) / 10 = (((x + y + cc) / 10 : Nat) : Int)) := Lib.hid (by omega)
      go_wp2_with (first
        | (go_at_call 156; (first
          | ((with_reducible refine (ri_at _ A1 c1 _ D1 rfl (by omega) (H1.out.below HB.out) R.length).mono ?_); rintro e w1 ⟨rfl, rfl⟩; rw [HX.out])
          | (refine (ri_at _ A2 c2 _ D2 rfl (by omega) (H2.out.below HB.out) R.length).mono ?_; rintro e w1 ⟨rfl, rfl⟩; rw [HY.out])))
        | (at_builtin; (refine wpList_append_own _ rfl (.tmp 28) (.tmp 31) 41 rfl w.heap.size 3 i0 _ 1 8 Tryz.underlying41 HI.out HZ.out HY1.out HY2.out rfl (by decide) _ R.length _ rfl (World.ownsRow.alloc HO.out _) ⟨wr.heap.size, 0, none⟩ 1 1 [.int .i64 (((x : Int) + (y : Int) + (cc : Int)) % 10)] rfl rfl (cell_one_new _ _ _) (by simp [Value.oneCell']) (by unfold maxLen; omega) (by omega) (by have := HB.out.size; simp; omega) ?_; intro v4 w4 hO4 hg4 hi4; clear hi4; rw [ED.out] at hO4; have HB4 := Lib.hid (app_below HB.out HO.out _ hg4); have HO4 := Lib.hid hO4; obtain ⟨A4, cap4, rfl⟩ := own_form2 hO4; clear hO4 hg4)))
      go_roundw
      case rel =>
        go_light
        refine ⟨R ++ [(x + y + cc) % 10], (x + y + cc) / 10, by simp; omega, by simp, by rw [EQ.out], by omega, sm_snoc HSR.out (by omega), Lib.hid ?_, HB4.out, by rw [dcs_snoc, List.length_append]; exact HO4.out⟩
        rw [dv_snoc, List.length_append, List.length_singleton, dv_take, dv_take, Nat.pow_succ]
        have hx := HX.out
        have hy := HY.out
        unfold gd at hx hy
        rw [hx, hy]
        exact plus_step HK.out rfl
      case measure => simp [intOf]; omega
    · have e : R.length = m + 1 := by omega
      have HE := Lib.hid e
      have HV : Hid (dv R = dv D1 + dv D2) := Lib.hid (by
        have h := HK.out
        rw [e, List.take_of_length_le (by omega), List.take_of_length_le (by omega)] at h
        exact plus_end h (dv_part_lt HS1.out m hm1) (dv_part_lt HS2.out m hm2))
      clear e
      go_wp2
      go_ret
      exact ⟨AR, capR, R, by rw [← HE.out]; rfl, HE.out, by rw [← HE.out]; exact own_le HO.out, HSR.out, HV.out, dig_own HO.out, (fun ad h => own_block_ge (k := ad.block) HO.out (by rw [h]; rfl)), HB.out⟩
end
/- matchguardref05: minus, compare. -/
section
open Go.RowKit

theorem quiet_now {P : Program} {f : FuncId} {args : Array Value} {w : World} {n : Nat} {v : Value} (h : Calls P f args (w.drewN n) fun e w' => e = .returned v ∧ w.drewN n = w') : Calls P f args (w.drewN n) fun e w'' => e = .returned v ∧ ∃ m, w'' = w.drewN m :=
  h.mono fun _ _ h => ⟨h.1, n, h.2.symm⟩
theorem below_drewN2 {B : Nat} {w0 w : World} {n : Nat} (h : Below B w0 w) : Below B w0 (w.drewN n) := by
  induction n with
  | zero => exact h
  | succ n ih => exact ih.drew
theorem own_drewN2 {w : World} {B e sz n q : Nat} {v : Value} {l : List Value} (h : w.ownsRow B e sz v n l) : (w.drewN q).ownsRow B e sz v n l := by
  induction q with
  | zero => exact h
  | succ q ih => exact World.ownsRow.drew ih
set_option maxRecDepth 100000 in
set_option maxHeartbeats 2000000 in
theorem ri_minus (w : World) (A1 A2 : Option Addr) (c1 c2 n1 n2 : Nat) (D1 D2 : List Nat) (hn1 : D1.length = n1) (hn2 : D2.length = n2) (hl1 : D1.length ≤ 900) (hl : D2.length ≤ D1.length) (hv : dv D2 ≤ dv D1) (hS1 : Sm D1) (hS2 : Sm D2) (h1 : DigA w A1 D1) (h2 : DigA w A2 D2) :
    Calls Tryz.prog 142 #[.slice A1 n1 c1, .slice A2 n2 c2] w (RetDig (dv D1 - dv D2) n1 w) := by
  subst hn1 hn2
  obtain ⟨i0, hi0⟩ : ∃ i, Tryz.prog.info? 3 = some i := Option.isSome_iff_exists.1 (by kernel_rfl)
  have hz0 : i0.zero = some (.int .i64 0) := by
    have : (Tryz.prog.info? 3).map (·.zero) = some (some (.int .i64 0)) := by kernel_rfl
    rw [hi0] at this; simpa using this
  have hy1 : i0.size = 1 := by
    have : (Tryz.prog.info? 3).map (·.size) = some 1 := by kernel_rfl
    rw [hi0] at this; simpa using this
  have hy2 : i0.bytes = 8 := by
    have : (Tryz.prog.info? 3).map (·.bytes) = some 8 := by kernel_rfl
    rw [hi0] at this; simpa using this
  have HI := Lib.hid hi0
  have HZ := Lib.hid hz0
  have HY1 := Lib.hid hy1
  have HY2 := Lib.hid hy2
  have HS1 := Lib.hid hS1
  have HS2 := Lib.hid hS2
  have H1 := Lib.hid h1
  have H2 := Lib.hid h2
  have HV := Lib.hid hv
  clear hi0 hz0 hy1 hy2 hS1 hS2 h1 h2 hv
  go_enter Tryz.func142, Tryz.ntmps142
  go_wp2
  go_loopw [5, 6, 11] (fun v c i w' => ∃ (R : List Nat) (cc : Nat), R.length ≤ D1.length ∧ i = .int .i64 (R.length : Nat) ∧ c = .int .i64 (cc : Nat) ∧ cc ≤ 1 ∧ Sm R ∧ Hid (dv R + dv (D2.take R.length) = dv (D1.take R.length) + cc * 10 ^ R.length) ∧ Below w.heap.size w w' ∧ w'.ownsRow w.heap.size 3 1 v R.length (dcs R)) (fun _ _ i _ => D1.length - (intOf i).toNat)
  case atStart => exact ⟨[], 0, by simp, by simp, by simp, by omega, (fun x hx => by cases hx), Lib.hid (by simp [dv]), Below.refl _ _, World.ownsRow_nil _ _ _ _⟩
  case round =>
    obtain ⟨R, cc, hR, rfl, rfl, hcc, hSR, HK, hB, hO⟩ := hrel
    obtain ⟨AR, capR, rfl⟩ := own_form2 hO
    have HSR := Lib.hid hSR
    have HB := Lib.hid hB
    have HO := Lib.hid hO
    clear hSR hB hO
    by_cases hlt : (R.length : Int) < (D1.length : Int)
    · obtain ⟨x, hx⟩ : ∃ x, gd D1 R.length = x := ⟨_, rfl⟩
      obtain ⟨y, hy⟩ : ∃ y, gd D2 R.length = y := ⟨_, rfl⟩
      have hx9 : x < 10 := by rw [← hx]; exact sm_getD HS1.out _
      have hy9 : y < 10 := by rw [← hy]; exact sm_getD HS2.out _
      obtain ⟨b, hA1, hb1, hcl⟩ := H1.out.at R.length (by omega)
      have hcell : wr.cell? ⟨b, R.length, none⟩ = some (.int .i64 (x : Nat)) := by rw [HB.out.cell (p := ⟨b, R.length, none⟩) hb1, hcl, hx]
      have HX := Lib.hid hx
      have HY := Lib.hid hy
      subst hA1
      clear hx hy hb1 hcl
      go_wp2
      go_quiet ((go_at_call 156; exact quiet_now (ri_at _ A2 c2 _ D2 rfl (by omega) (H2.out.below (below_drewN2 HB.out)) R.length)))
      rw [HY.out]
      have HB9 := Lib.hid (below_drewN2 (n := nq) HB.out)
      have HO9 := Lib.hid (own_drewN2 (q := nq) HO.out)
      clear hcell
      generalize wr.drewN nq = w9 at HB9 HO9 ⊢
      by_cases hneg : x < y + cc
      · obtain ⟨d, hd⟩ : ∃ d, d + y + cc = x + 10 := ⟨x + 10 - y - cc, by omega⟩
        have hd9 : d < 10 := by omega
        have ew : wrap64 (wrap64 ((x : Int) - (y : Int)) - (cc : Int)) = (d : Int) - 10 := by rw [IntWalk.wrap64_in ((x : Int) - (y : Int)) (by omega), IntWalk.wrap64_in _ (by omega)]; omega
        have e2 : (d : Int) - 10 + 10 = (d : Int) := by omega
        have e3 : (d : Int) - 10 < 0 := by omega
        rw [ew]
        clear ew
        have HD9 := Lib.hid hd
        clear hd hneg
        go_wp2_with (at_builtin; (refine wpList_append_own _ rfl (.tmp 28) (.tmp 30) 41 rfl w.heap.size 3 i0 _ 1 8 Tryz.underlying41 HI.out HZ.out HY1.out HY2.out rfl (by decide) _ R.length _ rfl (World.ownsRow.alloc HO9.out _) ⟨w9.heap.size, 0, none⟩ 1 1 [.int .i64 (d : Int)] rfl rfl (cell_one_new _ _ _) (by simp [Value.oneCell']) (by unfold maxLen; omega) (by omega) (by have := HB9.out.size; simp; omega) ?_; intro v4 w4 hO4 hg4 hi4; clear hi4; have HB4 := Lib.hid (app_below HB9.out HO9.out _ hg4); have HO4 := Lib.hid hO4; obtain ⟨A4, cap4, rfl⟩ := own_form2 hO4; clear hO4 hg4))
        go_roundw
        case rel =>
          go_light
          refine ⟨R ++ [d], 1, by simp; omega, by simp, by simp, by omega, sm_snoc HSR.out hd9, Lib.hid ?_, HB4.out, by rw [dcs_snoc, List.length_append]; exact HO4.out⟩
          rw [dv_snoc, List.length_append, List.length_singleton, dv_take, dv_take, Nat.pow_succ]
          have hx := HX.out
          have hy := HY.out
          unfold gd at hx hy
          rw [hx, hy]
          have hd := HD9.out
          exact minus_step HK.out (by omega)
        case measure => simp [intOf]; omega
      · obtain ⟨d, hd⟩ : ∃ d, d + y + cc = x := ⟨x - y - cc, by omega⟩
        have hd9 : d < 10 := by omega
        have ew : wrap64 (wrap64 ((x : Int) - (y : Int)) - (cc : Int)) = (d : Int) := by rw [IntWalk.wrap64_in ((x : Int) - (y : Int)) (by omega), IntWalk.wrap64_in _ (by omega)]; omega
        have e3 : ¬ (d : Int) < 0 := by omega
        rw [ew]
        clear ew
        have HD9 := Lib.hid hd
        clear hd hneg
        go_wp2_with (at_builtin; (refine wpList_append_own _ rfl (.tmp 28) (.tmp 30) 41 rfl w.heap.size 3 i0 _ 1 8 Tryz.underlying41 HI.out HZ.out HY1.out HY2.out rfl (by decide) _ R.length _ rfl (World.ownsRow.alloc HO9.out _) ⟨w9.heap.size, 0, none⟩ 1 1 [.int .i64 (d : Int)] rfl rfl (cell_one_new _ _ _) (by simp [Value.oneCell']) (by unfold maxLen; omega) (by omega) (by have := HB9.out.size; simp; omega) ?_; intro v4 w4 hO4 hg4 hi4; clear hi4; have HB4 := Lib.hid (app_below HB9.out HO9.out _ hg4); have HO4 := Lib.hid hO4; obtain ⟨A4, cap4, rfl⟩ := own_form2 hO4; clear hO4 hg4))
        go_roundw
        case rel =>
          go_light
          refine ⟨R ++ [d], 0, by simp; omega, by simp, by simp, by omega, sm_snoc HSR.out hd9, Lib.hid ?_, HB4.out, by rw [dcs_snoc, List.length_append]; exact HO4.out⟩
          rw [dv_snoc, List.length_append, List.length_singleton, dv_take, dv_take, Nat.pow_succ]
          have hx := HX.out
          have hy := HY.out
          unfold gd at hx hy
          rw [hx, hy]
          have hd := HD9.out
          exact minus_step HK.out (by omega)
        case measure => simp [intOf]; omega
    · have e : R.length = D1.length := by omega
      have HE := Lib.hid e
      have HV2 : Hid (dv R = dv D1 - dv D2) := Lib.hid (by
        have h := HK.out
        have hlt := dv_lt HSR.out
        rw [e, List.take_of_length_le (by omega), List.take_length] at h
        exact minus_end h (by rw [← e]; exact hlt) HV.out)
      clear e
      go_wp2
      go_ret
      exact ⟨AR, capR, R, by rw [← HE.out]; rfl, HE.out, by rw [← HE.out]; exact own_le HO.out, HSR.out, HV2.out, dig_own HO.out, (fun ad h => own_block_ge (k := ad.block) HO.out (by rw [h]; rfl)), HB.out⟩

set_option maxRecDepth 100000 in
set_option maxHeartbeats 2000000 in
theorem ri_cmp (w : World) (A1 A2 : Option Addr) (c1 c2 n1 n2 a b : Nat) (hn1 : (cd a).length = n1) (hn2 : (cd b).length = n2) (hl1 : (cd a).length ≤ 900) (h1 : DigA w A1 (cd a)) (h2 : DigA w A2 (cd b)) :
    Calls Tryz.prog 141 #[.slice A1 n1 c1, .slice A2 n2 c2] w fun e w' => e = .returned (.int .i64 (sgn a b)) ∧ ∃ q, w' = w.drewN q := by
  subst hn1 hn2
  by_cases hlt : (cd a).length < (cd b).length
  · have e : sgn a b = -1 := by have := cd_lt_of_len hlt; unfold sgn; rw [if_neg (by omega), if_pos (by omega)]
    have h3 : ((cd a).length : Int) < ((cd b).length : Int) := by omega
    have h4 : (((cd a).length : Int) == ((cd b).length : Int)) = false := by simp; omega
    rw [e]
    clear e hlt
    go_enter Tryz.func141, Tryz.ntmps141
    go_wp2
    go_ret
    exact ⟨rfl, 0, rfl⟩
  · by_cases hgt : (cd b).length < (cd a).length
    · have e : sgn a b = 1 := by have := cd_lt_of_len hgt; unfold sgn; rw [if_neg (by omega), if_neg (by omega)]
      have h3 : ¬ ((cd a).length : Int) < ((cd b).length : Int) := by omega
      have h4 : (((cd a).length : Int) == ((cd b).length : Int)) = false := by simp; omega
      rw [e]
      clear e hlt hgt
      go_enter Tryz.func141, Tryz.ntmps141
      go_wp2
      go_ret
      exact ⟨rfl, 0, rfl⟩
    · have el : (cd a).length = (cd b).length := by omega
      have HL := Lib.hid el
      have H1 := Lib.hid h1
      have H2 := Lib.hid h2
      rw [← el]
      clear el hlt hgt h1 h2
      go_enter Tryz.func141, Tryz.ntmps141
      go_wp2
      go_loopw [5] (fun i w' => ∃ k : Nat, k ≤ (cd a).length ∧ i = .int .i64 ((k : Int) - 1) ∧ Hid ((cd a).drop k = (cd b).drop k) ∧ ∃ q, w' = w.drewN q) (fun i _ => (intOf i + 1).toNat)
      case atStart => exact ⟨(cd a).length, Nat.le_refl _, rfl, Lib.hid (by rw [List.drop_length, List.drop_eq_nil_of_le (by have := HL.out; omega)]), 0, rfl⟩
      case round =>
        obtain ⟨k1, hk, rfl, HK, q, hq⟩ := hrel
        have HQ := Lib.hid hq
        cases k1 with
        | zero =>
          have HE : Hid (a = b) := Lib.hid (by
            have := HK.out
            rw [List.drop_zero, List.drop_zero] at this
            have := congrArg dv this
            rwa [dv_cd, dv_cd] at this)
          clear hq
          go_wp2
          go_ret
          refine ⟨?_, q, HQ.out⟩
          rw [HE.out]; unfold sgn; rw [if_pos rfl]; rfl
        | succ k =>
          obtain ⟨x, hx⟩ : ∃ x, gd (cd a) k = x := ⟨_, rfl⟩
          obtain ⟨y, hy⟩ : ∃ y, gd (cd b) k = y := ⟨_, rfl⟩
          have d1 : DigA wr A1 (cd a) := by rw [hq]; exact H1.out.drewN
          have d2 : DigA wr A2 (cd b) := by rw [hq]; exact H2.out.drewN
          obtain ⟨b1, e1, _, i0⟩ := d1.at k (by omega)
          obtain ⟨b2, e2, _, i1⟩ := d2.at k (by have := HL.out; omega)
          rw [hx] at i0
          rw [hy] at i1
          subst e1 e2
          have HX := Lib.hid hx
          have HY := Lib.hid hy
          have ek : ((k + 1 : Nat) : Int) - 1 = (k : Int) := by omega
          rw [ek]
          have kl : (k : Int) < ((cd a).length : Int) := by omega
          clear hq hx hy ek d1 d2
          by_cases hxy : x = y
          · have HD : Hid ((cd a).drop k = (cd b).drop k) := Lib.hid (drop_eq HL.out k HK.out (by have hx := HX.out; have hy := HY.out; unfold gd at hx hy; rw [hx, hy, hxy]))
            subst hxy
            go_wp2
            go_quiet (fail)
            go_wp2
            go_roundw
            case rel =>
              go_light
              exact ⟨k, by omega, rfl, HD, by rw [HQ.out]; simp only [World.drewN_drewN]; exact ⟨_, rfl⟩⟩
            case measure => simp [intOf]
          · have t1 : (((x : Nat) : Int) == ((y : Nat) : Int)) = false := by rw [beq_eq_false_iff_ne]; omega
            have HXY := Lib.hid hxy
            clear hxy
            by_cases hl : x < y
            · have HS : Hid (sgn a b = -1) := Lib.hid (by
                have h := dv_less (sm_cd a) (sm_cd b) k HK.out (by have hx := HX.out; have hy := HY.out; unfold gd at hx hy; rw [hx, hy]; exact hl)
                rw [dv_cd, dv_cd] at h
                unfold sgn; rw [if_neg (by omega), if_pos (by omega)])
              have t2 : (x : Int) < (y : Int) := by omega
              clear hl
              go_wp2
              go_quiet (fail)
              go_wp2
              go_quiet (fail)
              go_wp2
              go_ret
              refine ⟨by rw [HS.out]; rfl, ?_⟩
              rw [HQ.out]
              simp only [World.drewN_drewN]
              exact ⟨_, rfl⟩
            · have HS : Hid (sgn a b = 1) := Lib.hid (by
                have h := dv_less (sm_cd b) (sm_cd a) k HK.out.symm (by have hx := HX.out; have hy := HY.out; have := HXY.out; unfold gd at hx hy; rw [hx, hy]; omega)
                rw [dv_cd, dv_cd] at h
                unfold sgn; rw [if_neg (by omega), if_neg (by omega)])
              have t2 : ¬ (x : Int) < (y : Int) := by omega
              clear hl
              go_wp2
              go_quiet (fail)
              go_wp2
              go_quiet (fail)
              go_wp2
              go_ret
              refine ⟨by rw [HS.out]; rfl, ?_⟩
              rw [HQ.out]
              simp only [World.drewN_drewN]
              exact ⟨_, rfl⟩
end
/- matchguardref05: Add, Neg, Sub, Compare. -/
section
open Go.RowKit

/-- An Int comes back; nothing that there was is changed. -/
def RetI (z : Int) (w : World) (e : Ending) (w' : World) : Prop := ∃ A cap n, e = .returned (.agg #[.bool (decide (z < 0)), .slice A n cap]) ∧ (cd z.natAbs).length = n ∧ n ≤ cap ∧ DigA w' A (cd z.natAbs) ∧ Below w.heap.size w w'
/-- what Add and its like hand back -/
def RetT (m : Bool) (n : Nat) (w : World) (e : Ending) (w' : World) : Prop := ∃ A cap, e = .returned (.agg #[.bool (m && decide (0 < n)), .slice A (cd n).length cap]) ∧ DigA w' A (cd n) ∧ (cd n).length ≤ cap ∧ Below w.heap.size w w'
theorem ret_trim {m : Bool} {n : Nat} {z : Int} {w w' : World} {e : Ending} (h : RetT m n w e w') (hz : z.natAbs = n) (hs : (m && decide (0 < n)) = decide (z < 0)) : RetI z w e w' := by
  obtain ⟨A, cap, h1, h2, h3, h4⟩ := h
  subst hz
  exact ⟨A, cap, _, by rw [h1, hs], rfl, h3, h2, h4⟩
theorem DigA.set {w : World} {A : Option Addr} {D : List Nat} (h : DigA w A D) {b : Nat} (hb : ∀ ad, A = some ad → ad.block ≠ b) (o : Nat) (v : Value) : DigA (w.setCell ⟨b, o, none⟩ v) A D := by
  rcases h with h | ⟨g, h1, h2, h3⟩
  · exact .inl h
  · exact .inr ⟨g, h1, by rw [World.size_setCell]; exact h2, fun i hi => by rw [World.cell?_setCell_far _ _ _ _ (fun e => hb _ h1 e.symm)]; exact h3 i hi⟩
/-- what Add comes to -/
def addM (m1 m2 : Bool) (a b : Nat) : Bool := if m1 = m2 then m1 else if b ≤ a then m1 else m2
def addN (m1 m2 : Bool) (a b : Nat) : Nat := if m1 = m2 then a + b else if b ≤ a then a - b else b - a
theorem add_int (a b : Int) : (a + b).natAbs = addN (decide (a < 0)) (decide (b < 0)) a.natAbs b.natAbs ∧ (addM (decide (a < 0)) (decide (b < 0)) a.natAbs b.natAbs && decide (0 < addN (decide (a < 0)) (decide (b < 0)) a.natAbs b.natAbs)) = decide (a + b < 0) := by
  unfold addN addM
  by_cases ha : a < 0 <;> by_cases hb : b < 0
  all_goals simp only [ha, hb, decide_true, decide_false, Bool.false_eq_true, if_true, if_false, Bool.true_and, Bool.false_and, reduceCtorEq]
  · refine ⟨by omega, ?_⟩; rw [decide_eq_decide]; omega
  · by_cases hc : b.natAbs ≤ a.natAbs
    · rw [if_pos hc, if_pos hc]
      refine ⟨by omega, ?_⟩
      rw [Bool.true_and, decide_eq_decide]; omega
    · rw [if_neg hc, if_neg hc]
      refine ⟨by omega, ?_⟩
      rw [Bool.false_and]; symm; rw [decide_eq_false_iff_not]; omega
  · by_cases hc : b.natAbs ≤ a.natAbs
    · rw [if_pos hc, if_pos hc]
      refine ⟨by omega, ?_⟩
      rw [Bool.false_and]; symm; rw [decide_eq_false_iff_not]; omega
    · rw [if_neg hc, if_neg hc]
      refine ⟨by omega, ?_⟩
      rw [Bool.true_and, decide_eq_decide]; omega
  · refine ⟨by omega, ?_⟩; symm; rw [decide_eq_false_iff_not]; omega
/-- two boxes of Ints are there, and nothing else of old has changed -/
structure Boxes (w : World) (x0 x1 y0 y1 : Value) (w' : World) : Prop where
  below : Below w.heap.size w w'
  size : w.heap.size + 3 ≤ w'.heap.size
  a0 : w'.cell? ⟨w.heap.size, 0, none⟩ = some x0
  a1 : w'.cell? ⟨w.heap.size, 1, none⟩ = some x1
  b0 : w'.cell? ⟨w.heap.size + 1, 0, none⟩ = some y0
  b1 : w'.cell? ⟨w.heap.size + 1, 1, none⟩ = some y1
def Sx (w : World) (x0 x1 y0 y1 : Value) (w' : World) : Prop := Boxes w x0 x1 y0 y1 w' ∧ w'.cell? ⟨w.heap.size, 0, none⟩ = some x0 ∧ w'.cell? ⟨w.heap.size, 1, none⟩ = some x1 ∧ w'.cell? ⟨w.heap.size + 1, 0, none⟩ = some y0 ∧ w'.cell? ⟨w.heap.size + 1, 1, none⟩ = some y1
theorem Boxes.all {w w' : World} {x0 x1 y0 y1 : Value} (h : Boxes w x0 x1 y0 y1 w') : Boxes w x0 x1 y0 y1 w' ∧ w'.cell? ⟨w.heap.size, 0, none⟩ = some x0 ∧ w'.cell? ⟨w.heap.size, 1, none⟩ = some x1 ∧ w'.cell? ⟨w.heap.size + 1, 0, none⟩ = some y0 ∧ w'.cell? ⟨w.heap.size + 1, 1, none⟩ = some y1 := ⟨h, h.a0, h.a1, h.b0, h.b1⟩
theorem Boxes.call {w W W' : World} {x0 x1 y0 y1 : Value} (h : Boxes w x0 x1 y0 y1 W) (hx : Below W.heap.size W W') : Boxes w x0 x1 y0 y1 W' := by
  have hs := h.size
  have c : ∀ b o, b < w.heap.size + 3 → W'.cell? ⟨b, o, none⟩ = W.cell? ⟨b, o, none⟩ := fun b o hb => hx.cell (p := ⟨b, o, none⟩) (by show b < _; omega)
  exact ⟨h.below.trans (hx.mono (by omega)), Nat.le_trans h.size hx.size, by rw [c _ _ (by omega)]; exact h.a0, by rw [c _ _ (by omega)]; exact h.a1, by rw [c _ _ (by omega)]; exact h.b0, by rw [c _ _ (by omega)]; exact h.b1⟩
theorem Boxes.drew {w W : World} {x0 x1 y0 y1 : Value} (h : Boxes w x0 x1 y0 y1 W) : Boxes w x0 x1 y0 y1 W.drew := ⟨h.below.drew, h.size, h.a0, h.a1, h.b0, h.b1⟩
theorem Boxes.set {w W : World} {x0 x1 y0 y1 : Value} (h : Boxes w x0 x1 y0 y1 W) (o : Nat) (v : Value) : Boxes w x0 x1 y0 y1 (W.setCell ⟨w.heap.size + 1 + 1, o, none⟩ v) :=
  ⟨h.below.setCell (by simp; omega) _, by rw [World.size_setCell]; exact h.size, by rw [World.cell?_setCell_far _ _ _ _ (by simp; omega)]; exact h.a0, by rw [World.cell?_setCell_far _ _ _ _ (by simp; omega)]; exact h.a1, by rw [World.cell?_setCell_far _ _ _ _ (by simp)]; exact h.b0, by rw [World.cell?_setCell_far _ _ _ _ (by simp)]; exact h.b1⟩
theorem Boxes.cells {w W W' : World} {x0 x1 y0 y1 z0 z1 : Value} (h : Boxes w x0 x1 y0 y1 W) (hx : Below W.heap.size W W') (r0 : W.cell? ⟨w.heap.size + 1 + 1, 0, none⟩ = some z0) (r1 : W.cell? ⟨w.heap.size + 1 + 1, 1, none⟩ = some z1) (f0 : W.frozen? ⟨w.heap.size + 1 + 1, 0, none⟩ = false) (f1 : W.frozen? ⟨w.heap.size + 1 + 1, 1, none⟩ = false) :
    W'.cell? ⟨w.heap.size + 1 + 1, 0, none⟩ = some z0 ∧ W'.cell? ⟨w.heap.size + 1 + 1, 1, none⟩ = some z1 ∧ W'.frozen? ⟨w.heap.size + 1 + 1, 0, none⟩ = false ∧ W'.frozen? ⟨w.heap.size + 1 + 1, 1, none⟩ = false := by
  have hs := h.size
  exact ⟨by rw [hx.cell (p := ⟨_, _, none⟩) (by show w.heap.size + 1 + 1 < _; omega)]; exact r0, by rw [hx.cell (p := ⟨_, _, none⟩) (by show w.heap.size + 1 + 1 < _; omega)]; exact r1, by rw [hx.frozen (p := ⟨_, _, none⟩) (by show w.heap.size + 1 + 1 < _; omega)]; exact f0, by rw [hx.frozen (p := ⟨_, _, none⟩) (by show w.heap.size + 1 + 1 < _; omega)]; exact f1⟩
set_option maxRecDepth 100000 in
set_option maxHeartbeats 4000000 in
theorem ri_add_pp (w : World) (A1 A2 : Option Addr) (c1 c2 n1 n2 a b : Nat) (hn1 : (cd a).length = n1) (hn2 : (cd b).length = n2) (hl1 : n1 ≤ 800) (hl2 : n2 ≤ 800) (h1 : DigA w A1 (cd a)) (h2 : DigA w A2 (cd b)) :
    Calls Tryz.prog 121 #[.agg #[.bool false, .slice A1 n1 c1], .agg #[.bool false, .slice A2 n2 c2]] w (RetT false (a + b) w) := by
  have H1 := Lib.hid h1
  have H2 := Lib.hid h2
  have HN1 := Lib.hid hn1
  have HN2 := Lib.hid hn2
  have da := dv_cd a
  have db := dv_cd b
  have DA := Lib.hid da
  have DB := Lib.hid db
  clear h1 h2 da db hn1 hn2
  go_enter Tryz.func121, Tryz.ntmps121
  go_upto_region 2 with fail
  obtain ⟨W, hW⟩ : ∃ W, W = ((w.alloc (.cells #[.bool false, .slice A1 n1 c1] 197)).alloc (.cells #[.bool false, .slice A2 n2 c2] 197)).alloc (.cells #[.bool false, .slice none 0 0] 197) := ⟨_, rfl⟩
  have hB : Below w.heap.size w W := by rw [hW]; exact (((Below.refl _ _).alloc (by simp) _).alloc (by simp) _).alloc (by simp; omega) _
  have hs : w.heap.size + 3 ≤ W.heap.size := by rw [hW]; simp
  have a0 : W.cell? ⟨w.heap.size, 0, none⟩ = some (.bool false) := by rw [hW]; simp [go_sem]
  have a1 : W.cell? ⟨w.heap.size, 1, none⟩ = some (.slice A1 n1 c1) := by rw [hW]; simp [go_sem]
  have b0 : W.cell? ⟨w.heap.size + 1, 0, none⟩ = some (.bool false) := by rw [hW]; simp [go_sem]
  have b1 : W.cell? ⟨w.heap.size + 1, 1, none⟩ = some (.slice A2 n2 c2) := by rw [hW]; simp [go_sem]
  have r0 : W.cell? ⟨w.heap.size + 1 + 1, 0, none⟩ = some (.bool false) := by rw [hW]; simp [go_sem]
  have r1 : W.cell? ⟨w.heap.size + 1 + 1, 1, none⟩ = some (.slice none 0 0) := by rw [hW]; simp [go_sem]
  have f0 : W.frozen? ⟨w.heap.size + 1 + 1, 0, none⟩ = false := by rw [hW]; simp [go_sem]
  have f1 : W.frozen? ⟨w.heap.size + 1 + 1, 1, none⟩ = false := by rw [hW]; simp [go_sem]
  have HX : Hid (Boxes w (.bool false) (.slice A1 n1 c1) (.bool false) (.slice A2 n2 c2) W) := Lib.hid ⟨hB, hs, a0, a1, b0, b1⟩
  rw [← hW]
  clear hW hB hs a0 a1 b0 b1
  go_region_held3 (fun w' => Boxes w (.bool false) (.slice A1 n1 c1) (.bool false) (.slice A2 n2 c2) w' ∧ w'.cell? ⟨w.heap.size, 0, none⟩ = some (.bool false) ∧ w'.cell? ⟨w.heap.size, 1, none⟩ = some (.slice A1 n1 c1) ∧ w'.cell? ⟨w.heap.size + 1, 0, none⟩ = some (.bool false) ∧ w'.cell? ⟨w.heap.size + 1, 1, none⟩ = some (.slice A2 n2 c2))
    (first
      | exact (Boxes.drew HX.out).all
      | exact (Boxes.call (And.left (by assumption)) (by assumption)).all
      | exact (Boxes.set (And.left (by assumption)) _ _).all
      | exact (Boxes.set (Boxes.set (And.left (by assumption)) _ _) _ _).all)
    (first
      | (go_at_call 140; refine (ri_plus _ A1 A2 c1 c2 _ _ (cd a) (cd b) HN1.out HN2.out (by rw [HN1.out]; omega) (by rw [HN2.out]; omega) (sm_cd a) (sm_cd b) (H1.out.below (Boxes.below (And.left (by assumption)))) (H2.out.below (Boxes.below (And.left (by assumption))))).mono ?_; rintro e w2 ⟨A, cap, R, rfl, hR, hc, hS, hv, hD, hF, hb2⟩; have HR := Lib.hid hR; have HS := Lib.hid hS; have HV := Lib.hid hv; have HD := Lib.hid hD; obtain ⟨k0, k1, l0, l1⟩ := Boxes.cells (Boxes.drew HX.out) hb2 r0 r1 f0 f1; have HX2 := Lib.hid (Boxes.call (Boxes.drew HX.out) hb2); have HF := Lib.hid hF; clear hR hS hv hD hF)
      | (go_at_call 139; refine (ri_trim _ _ A cap _ R HR.out (by rw [HR.out]; omega) (by rw [HR.out]; exact hc) HS.out (HD.out)).mono ?_; rintro e w3 ⟨cap', rfl, hD3, hl3, hb3⟩; have HD3 := Lib.hid (hD3.below hb3); obtain ⟨k2, k3, l2, l3⟩ := Boxes.cells HX2.out hb3 k0 k1 l0 l1; have HX3 := Lib.hid (Boxes.call HX2.out hb3); clear hD3))
  all_goals go_wp2_with fail
  have hF := fun ad (h : A = some ad) => (show ad.block ≠ w.heap.size + 1 + 1 by have := HF.out ad h; have hs := HX.out.size; have e : W.heap.size ≤ ad.block := this; omega)
  have hV : dv R = a + b := by rw [HV.out, DA.out, DB.out]
  have hsz := HX3.out.size
  refine bodyPost_ret (v := .agg #[.bool (false && decide (0 < dv R)), .slice A (cd (dv R)).length cap']) (by simp [results, Tryz.results121, go_sem, k2, k3]) rfl ⟨A, cap', by rw [hV], ?_, by rw [← hV]; exact hl3, ?_⟩
  · rw [← hV]; exact (HD3.out.set hF 0 _).set hF 1 _
  · exact store2 HX3.out.below (by omega) _ _
set_option maxRecDepth 100000 in
set_option maxHeartbeats 4000000 in
theorem ri_add_nn (w : World) (A1 A2 : Option Addr) (c1 c2 n1 n2 a b : Nat) (hn1 : (cd a).length = n1) (hn2 : (cd b).length = n2) (hl1 : n1 ≤ 800) (hl2 : n2 ≤ 800) (h1 : DigA w A1 (cd a)) (h2 : DigA w A2 (cd b)) :
    Calls Tryz.prog 121 #[.agg #[.bool true, .slice A1 n1 c1], .agg #[.bool true, .slice A2 n2 c2]] w (RetT true (a + b) w) := by
  have H1 := Lib.hid h1
  have H2 := Lib.hid h2
  have HN1 := Lib.hid hn1
  have HN2 := Lib.hid hn2
  have da := dv_cd a
  have db := dv_cd b
  have DA := Lib.hid da
  have DB := Lib.hid db
  clear h1 h2 da db hn1 hn2
  go_enter Tryz.func121, Tryz.ntmps121
  go_upto_region 2 with fail
  obtain ⟨W, hW⟩ : ∃ W, W = ((w.alloc (.cells #[.bool true, .slice A1 n1 c1] 197)).alloc (.cells #[.bool true, .slice A2 n2 c2] 197)).alloc (.cells #[.bool false, .slice none 0 0] 197) := ⟨_, rfl⟩
  have hB : Below w.heap.size w W := by rw [hW]; exact (((Below.refl _ _).alloc (by simp) _).alloc (by simp) _).alloc (by simp; omega) _
  have hs : w.heap.size + 3 ≤ W.heap.size := by rw [hW]; simp
  have a0 : W.cell? ⟨w.heap.size, 0, none⟩ = some (.bool true) := by rw [hW]; simp [go_sem]
  have a1 : W.cell? ⟨w.heap.size, 1, none⟩ = some (.slice A1 n1 c1) := by rw [hW]; simp [go_sem]
  have b0 : W.cell? ⟨w.heap.size + 1, 0, none⟩ = some (.bool true) := by rw [hW]; simp [go_sem]
  have b1 : W.cell? ⟨w.heap.size + 1, 1, none⟩ = some (.slice A2 n2 c2) := by rw [hW]; simp [go_sem]
  have r0 : W.cell? ⟨w.heap.size + 1 + 1, 0, none⟩ = some (.bool false) := by rw [hW]; simp [go_sem]
  have r1 : W.cell? ⟨w.heap.size + 1 + 1, 1, none⟩ = some (.slice none 0 0) := by rw [hW]; simp [go_sem]
  have f0 : W.frozen? ⟨w.heap.size + 1 + 1, 0, none⟩ = false := by rw [hW]; simp [go_sem]
  have f1 : W.frozen? ⟨w.heap.size + 1 + 1, 1, none⟩ = false := by rw [hW]; simp [go_sem]
  have HX : Hid (Boxes w (.bool true) (.slice A1 n1 c1) (.bool true) (.slice A2 n2 c2) W) := Lib.hid ⟨hB, hs, a0, a1, b0, b1⟩
  rw [← hW]
  clear hW hB hs a0 a1 b0 b1
  go_region_held3 (fun w' => Boxes w (.bool true) (.slice A1 n1 c1) (.bool true) (.slice A2 n2 c2) w' ∧ w'.cell? ⟨w.heap.size, 0, none⟩ = some (.bool true) ∧ w'.cell? ⟨w.heap.size, 1, none⟩ = some (.slice A1 n1 c1) ∧ w'.cell? ⟨w.heap.size + 1, 0, none⟩ = some (.bool true) ∧ w'.cell? ⟨w.heap.size + 1, 1, none⟩ = some (.slice A2 n2 c2))
    (first
      | exact (Boxes.drew HX.out).all
      | exact (Boxes.call (And.left (by assumption)) (by assumption)).all
      | exact (Boxes.set (And.left (by assumption)) _ _).all
      | exact (Boxes.set (Boxes.set (And.left (by assumption)) _ _) _ _).all)
    (first
      | (go_at_call 140; refine (ri_plus _ A1 A2 c1 c2 _ _ (cd a) (cd b) HN1.out HN2.out (by rw [HN1.out]; omega) (by rw [HN2.out]; omega) (sm_cd a) (sm_cd b) (H1.out.below (Boxes.below (And.left (by assumption)))) (H2.out.below (Boxes.below (And.left (by assumption))))).mono ?_; rintro e w2 ⟨A, cap, R, rfl, hR, hc, hS, hv, hD, hF, hb2⟩; have HR := Lib.hid hR; have HS := Lib.hid hS; have HV := Lib.hid hv; have HD := Lib.hid hD; obtain ⟨k0, k1, l0, l1⟩ := Boxes.cells (Boxes.drew HX.out) hb2 r0 r1 f0 f1; have HX2 := Lib.hid (Boxes.call (Boxes.drew HX.out) hb2); have HF := Lib.hid hF; clear hR hS hv hD hF)
      | (go_at_call 139; refine (ri_trim _ _ A cap _ R HR.out (by rw [HR.out]; omega) (by rw [HR.out]; exact hc) HS.out (HD.out)).mono ?_; rintro e w3 ⟨cap', rfl, hD3, hl3, hb3⟩; have HD3 := Lib.hid (hD3.below hb3); obtain ⟨k2, k3, l2, l3⟩ := Boxes.cells HX2.out hb3 k0 k1 l0 l1; have HX3 := Lib.hid (Boxes.call HX2.out hb3); clear hD3))
  all_goals go_wp2_with fail
  have hF := fun ad (h : A = some ad) => (show ad.block ≠ w.heap.size + 1 + 1 by have := HF.out ad h; have hs := HX.out.size; have e : W.heap.size ≤ ad.block := this; omega)
  have hV : dv R = a + b := by rw [HV.out, DA.out, DB.out]
  have hsz := HX3.out.size
  refine bodyPost_ret (v := .agg #[.bool (true && decide (0 < dv R)), .slice A (cd (dv R)).length cap']) (by simp [results, Tryz.results121, go_sem, k2, k3]) rfl ⟨A, cap', by rw [hV], ?_, by rw [← hV]; exact hl3, ?_⟩
  · rw [← hV]; exact (HD3.out.set hF 0 _).set hF 1 _
  · exact store2 HX3.out.below (by omega) _ _
set_option maxRecDepth 100000 in
set_option maxHeartbeats 4000000 in
theorem ri_add_np_ge (w : World) (A1 A2 : Option Addr) (c1 c2 n1 n2 a b : Nat) (hn1 : (cd a).length = n1) (hn2 : (cd b).length = n2) (hl1 : n1 ≤ 800) (_hl2 : n2 ≤ 800) (h1 : DigA w A1 (cd a)) (h2 : DigA w A2 (cd b)) (hab : b ≤ a) :
    Calls Tryz.prog 121 #[.agg #[.bool true, .slice A1 n1 c1], .agg #[.bool false, .slice A2 n2 c2]] w (RetT true (a - b) w) := by
  have H1 := Lib.hid h1
  have H2 := Lib.hid h2
  have HN1 := Lib.hid hn1
  have HN2 := Lib.hid hn2
  have da := dv_cd a
  have db := dv_cd b
  have DA := Lib.hid da
  have DB := Lib.hid db
  clear h1 h2 da db hn1 hn2
  have HAB := Lib.hid hab
  have hsg : 0 ≤ sgn a b := by unfold sgn; rw [if_neg (by omega : ¬ (a : Int) < b)]; split <;> decide
  clear hab
  go_enter Tryz.func121, Tryz.ntmps121
  go_upto_region 4 with (go_at_call 141; refine (ri_cmp _ A1 A2 c1 c2 _ _ a b HN1.out HN2.out (by rw [HN1.out]; omega) (((H1.out.alloc _).alloc _).alloc _) (((H2.out.alloc _).alloc _).alloc _)).mono ?_; rintro e w1 ⟨rfl, q, rfl⟩)
  obtain ⟨W, hW⟩ : ∃ W, W = (((w.alloc (.cells #[.bool true, .slice A1 n1 c1] 197)).alloc (.cells #[.bool false, .slice A2 n2 c2] 197)).alloc (.cells #[.bool false, .slice none 0 0] 197)).drewN q := ⟨_, rfl⟩
  have hB : Below w.heap.size w W := by rw [hW]; exact below_drewN2 ((((Below.refl _ _).alloc (by simp) _).alloc (by simp) _).alloc (by simp; omega) _)
  have hs : w.heap.size + 3 ≤ W.heap.size := by rw [hW]; simp
  have a0 : W.cell? ⟨w.heap.size, 0, none⟩ = some (.bool true) := by rw [hW]; simp [go_sem]
  have a1 : W.cell? ⟨w.heap.size, 1, none⟩ = some (.slice A1 n1 c1) := by rw [hW]; simp [go_sem]
  have b0 : W.cell? ⟨w.heap.size + 1, 0, none⟩ = some (.bool false) := by rw [hW]; simp [go_sem]
  have b1 : W.cell? ⟨w.heap.size + 1, 1, none⟩ = some (.slice A2 n2 c2) := by rw [hW]; simp [go_sem]
  have r0 : W.cell? ⟨w.heap.size + 1 + 1, 0, none⟩ = some (.bool false) := by rw [hW]; simp [go_sem]
  have r1 : W.cell? ⟨w.heap.size + 1 + 1, 1, none⟩ = some (.slice none 0 0) := by rw [hW]; simp [go_sem]
  have f0 : W.frozen? ⟨w.heap.size + 1 + 1, 0, none⟩ = false := by rw [hW]; simp [go_sem]
  have f1 : W.frozen? ⟨w.heap.size + 1 + 1, 1, none⟩ = false := by rw [hW]; simp [go_sem]
  have HX : Hid (Boxes w (.bool true) (.slice A1 n1 c1) (.bool false) (.slice A2 n2 c2) W) := Lib.hid ⟨hB, hs, a0, a1, b0, b1⟩
  rw [← hW]
  clear hW hB hs a0 a1 b0 b1
  go_region_held3 (fun w' => Boxes w (.bool true) (.slice A1 n1 c1) (.bool false) (.slice A2 n2 c2) w' ∧ w'.cell? ⟨w.heap.size, 0, none⟩ = some (.bool true) ∧ w'.cell? ⟨w.heap.size, 1, none⟩ = some (.slice A1 n1 c1) ∧ w'.cell? ⟨w.heap.size + 1, 0, none⟩ = some (.bool false) ∧ w'.cell? ⟨w.heap.size + 1, 1, none⟩ = some (.slice A2 n2 c2))
    (first
      | exact (Boxes.drew HX.out).all
      | exact (Boxes.call (And.left (by assumption)) (by assumption)).all
      | exact (Boxes.set (And.left (by assumption)) _ _).all
      | exact (Boxes.set (Boxes.set (And.left (by assumption)) _ _) _ _).all)
    (first
      | (go_at_call 142; refine (ri_minus _ A1 A2 c1 c2 _ _ (cd a) (cd b) HN1.out HN2.out (by rw [HN1.out]; omega) (cd_len_le HAB.out) (by rw [DA.out, DB.out]; exact HAB.out) (sm_cd a) (sm_cd b) (H1.out.below (Boxes.below (And.left (by assumption)))) (H2.out.below (Boxes.below (And.left (by assumption))))).mono ?_; rintro e w2 ⟨A, cap, R, rfl, hR, hc, hS, hv, hD, hF, hb2⟩; have HR := Lib.hid hR; have HS := Lib.hid hS; have HV := Lib.hid hv; have HD := Lib.hid hD; obtain ⟨k0, k1, l0, l1⟩ := Boxes.cells (Boxes.drew HX.out) hb2 r0 r1 f0 f1; have HX2 := Lib.hid (Boxes.call (Boxes.drew HX.out) hb2); have HF := Lib.hid hF; clear hR hS hv hD hF)
      | (go_at_call 139; refine (ri_trim _ _ A cap _ R HR.out (by rw [HR.out]; omega) (by rw [HR.out]; exact hc) HS.out (HD.out)).mono ?_; rintro e w3 ⟨cap', rfl, hD3, hl3, hb3⟩; have HD3 := Lib.hid (hD3.below hb3); obtain ⟨k2, k3, l2, l3⟩ := Boxes.cells HX2.out hb3 k0 k1 l0 l1; have HX3 := Lib.hid (Boxes.call HX2.out hb3); clear hD3))
  all_goals go_wp2_with fail
  have hF := fun ad (h : A = some ad) => (show ad.block ≠ w.heap.size + 1 + 1 by have := HF.out ad h; have hs := HX.out.size; have e : W.heap.size ≤ ad.block := this; omega)
  have hV : dv R = a - b := by rw [HV.out, DA.out, DB.out]
  have hsz := HX3.out.size
  refine bodyPost_ret (v := .agg #[.bool (true && decide (0 < dv R)), .slice A (cd (dv R)).length cap']) (by simp [results, Tryz.results121, go_sem, k2, k3]) rfl ⟨A, cap', by rw [hV], ?_, by rw [← hV]; exact hl3, ?_⟩
  · rw [← hV]; exact (HD3.out.set hF 0 _).set hF 1 _
  · exact store2 HX3.out.below (by omega) _ _
set_option maxRecDepth 100000 in
set_option maxHeartbeats 4000000 in
theorem ri_add_np_lt (w : World) (A1 A2 : Option Addr) (c1 c2 n1 n2 a b : Nat) (hn1 : (cd a).length = n1) (hn2 : (cd b).length = n2) (hl1 : n1 ≤ 800) (hl2 : n2 ≤ 800) (h1 : DigA w A1 (cd a)) (h2 : DigA w A2 (cd b)) (hab : a < b) :
    Calls Tryz.prog 121 #[.agg #[.bool true, .slice A1 n1 c1], .agg #[.bool false, .slice A2 n2 c2]] w (RetT false (b - a) w) := by
  have H1 := Lib.hid h1
  have H2 := Lib.hid h2
  have HN1 := Lib.hid hn1
  have HN2 := Lib.hid hn2
  have da := dv_cd a
  have db := dv_cd b
  have DA := Lib.hid da
  have DB := Lib.hid db
  clear h1 h2 da db hn1 hn2
  have HAB := Lib.hid hab
  have hsg : sgn a b < 0 := by unfold sgn; rw [if_neg (by omega), if_pos (by omega)]; decide
  have hsg' : ¬ 0 ≤ sgn a b := by omega
  clear hab
  go_enter Tryz.func121, Tryz.ntmps121
  go_upto_region 5 with (go_at_call 141; refine (ri_cmp _ A1 A2 c1 c2 _ _ a b HN1.out HN2.out (by rw [HN1.out]; omega) (((H1.out.alloc _).alloc _).alloc _) (((H2.out.alloc _).alloc _).alloc _)).mono ?_; rintro e w1 ⟨rfl, q, rfl⟩)
  obtain ⟨W, hW⟩ : ∃ W, W = (((w.alloc (.cells #[.bool true, .slice A1 n1 c1] 197)).alloc (.cells #[.bool false, .slice A2 n2 c2] 197)).alloc (.cells #[.bool false, .slice none 0 0] 197)).drewN q := ⟨_, rfl⟩
  have hB : Below w.heap.size w W := by rw [hW]; exact below_drewN2 ((((Below.refl _ _).alloc (by simp) _).alloc (by simp) _).alloc (by simp; omega) _)
  have hs : w.heap.size + 3 ≤ W.heap.size := by rw [hW]; simp
  have a0 : W.cell? ⟨w.heap.size, 0, none⟩ = some (.bool true) := by rw [hW]; simp [go_sem]
  have a1 : W.cell? ⟨w.heap.size, 1, none⟩ = some (.slice A1 n1 c1) := by rw [hW]; simp [go_sem]
  have b0 : W.cell? ⟨w.heap.size + 1, 0, none⟩ = some (.bool false) := by rw [hW]; simp [go_sem]
  have b1 : W.cell? ⟨w.heap.size + 1, 1, none⟩ = some (.slice A2 n2 c2) := by rw [hW]; simp [go_sem]
  have r0 : W.cell? ⟨w.heap.size + 1 + 1, 0, none⟩ = some (.bool false) := by rw [hW]; simp [go_sem]
  have r1 : W.cell? ⟨w.heap.size + 1 + 1, 1, none⟩ = some (.slice none 0 0) := by rw [hW]; simp [go_sem]
  have f0 : W.frozen? ⟨w.heap.size + 1 + 1, 0, none⟩ = false := by rw [hW]; simp [go_sem]
  have f1 : W.frozen? ⟨w.heap.size + 1 + 1, 1, none⟩ = false := by rw [hW]; simp [go_sem]
  have HX : Hid (Boxes w (.bool true) (.slice A1 n1 c1) (.bool false) (.slice A2 n2 c2) W) := Lib.hid ⟨hB, hs, a0, a1, b0, b1⟩
  rw [← hW]
  clear hW hB hs a0 a1 b0 b1
  go_region_held3 (fun w' => Boxes w (.bool true) (.slice A1 n1 c1) (.bool false) (.slice A2 n2 c2) w' ∧ w'.cell? ⟨w.heap.size, 0, none⟩ = some (.bool true) ∧ w'.cell? ⟨w.heap.size, 1, none⟩ = some (.slice A1 n1 c1) ∧ w'.cell? ⟨w.heap.size + 1, 0, none⟩ = some (.bool false) ∧ w'.cell? ⟨w.heap.size + 1, 1, none⟩ = some (.slice A2 n2 c2))
    (first
      | exact (Boxes.drew HX.out).all
      | exact (Boxes.call (And.left (by assumption)) (by assumption)).all
      | exact (Boxes.set (And.left (by assumption)) _ _).all
      | exact (Boxes.set (Boxes.set (And.left (by assumption)) _ _) _ _).all)
    (first
      | (go_at_call 142; refine (ri_minus _ A2 A1 c2 c1 _ _ (cd b) (cd a) HN2.out HN1.out (by rw [HN2.out]; omega) (cd_len_le (Nat.le_of_lt HAB.out)) (by rw [DA.out, DB.out]; exact Nat.le_of_lt HAB.out) (sm_cd b) (sm_cd a) (H2.out.below (Boxes.below (And.left (by assumption)))) (H1.out.below (Boxes.below (And.left (by assumption))))).mono ?_; rintro e w2 ⟨A, cap, R, rfl, hR, hc, hS, hv, hD, hF, hb2⟩; have HR := Lib.hid hR; have HS := Lib.hid hS; have HV := Lib.hid hv; have HD := Lib.hid hD; obtain ⟨k0, k1, l0, l1⟩ := Boxes.cells (Boxes.drew HX.out) hb2 r0 r1 f0 f1; have HX2 := Lib.hid (Boxes.call (Boxes.drew HX.out) hb2); have HF := Lib.hid hF; clear hR hS hv hD hF)
      | (go_at_call 139; refine (ri_trim _ _ A cap _ R HR.out (by rw [HR.out]; omega) (by rw [HR.out]; exact hc) HS.out (HD.out)).mono ?_; rintro e w3 ⟨cap', rfl, hD3, hl3, hb3⟩; have HD3 := Lib.hid (hD3.below hb3); obtain ⟨k2, k3, l2, l3⟩ := Boxes.cells HX2.out hb3 k0 k1 l0 l1; have HX3 := Lib.hid (Boxes.call HX2.out hb3); clear hD3))
  all_goals go_wp2_with fail
  have hF := fun ad (h : A = some ad) => (show ad.block ≠ w.heap.size + 1 + 1 by have := HF.out ad h; have hs := HX.out.size; have e : W.heap.size ≤ ad.block := this; omega)
  have hV : dv R = b - a := by rw [HV.out, DA.out, DB.out]
  have hsz := HX3.out.size
  refine bodyPost_ret (v := .agg #[.bool (false && decide (0 < dv R)), .slice A (cd (dv R)).length cap']) (by simp [results, Tryz.results121, go_sem, k2, k3]) rfl ⟨A, cap', by rw [hV], ?_, by rw [← hV]; exact hl3, ?_⟩
  · rw [← hV]; exact (HD3.out.set hF 0 _).set hF 1 _
  · exact store2 HX3.out.below (by omega) _ _
set_option maxRecDepth 100000 in
set_option maxHeartbeats 4000000 in
theorem ri_add_pn_ge (w : World) (A1 A2 : Option Addr) (c1 c2 n1 n2 a b : Nat) (hn1 : (cd a).length = n1) (hn2 : (cd b).length = n2) (hl1 : n1 ≤ 800) (_hl2 : n2 ≤ 800) (h1 : DigA w A1 (cd a)) (h2 : DigA w A2 (cd b)) (hab : b ≤ a) :
    Calls Tryz.prog 121 #[.agg #[.bool false, .slice A1 n1 c1], .agg #[.bool true, .slice A2 n2 c2]] w (RetT false (a - b) w) := by
  have H1 := Lib.hid h1
  have H2 := Lib.hid h2
  have HN1 := Lib.hid hn1
  have HN2 := Lib.hid hn2
  have da := dv_cd a
  have db := dv_cd b
  have DA := Lib.hid da
  have DB := Lib.hid db
  clear h1 h2 da db hn1 hn2
  have HAB := Lib.hid hab
  have hsg : 0 ≤ sgn a b := by unfold sgn; rw [if_neg (by omega : ¬ (a : Int) < b)]; split <;> decide
  clear hab
  go_enter Tryz.func121, Tryz.ntmps121
  go_upto_region 4 with (go_at_call 141; refine (ri_cmp _ A1 A2 c1 c2 _ _ a b HN1.out HN2.out (by rw [HN1.out]; omega) (((H1.out.alloc _).alloc _).alloc _) (((H2.out.alloc _).alloc _).alloc _)).mono ?_; rintro e w1 ⟨rfl, q, rfl⟩)
  obtain ⟨W, hW⟩ : ∃ W, W = (((w.alloc (.cells #[.bool false, .slice A1 n1 c1] 197)).alloc (.cells #[.bool true, .slice A2 n2 c2] 197)).alloc (.cells #[.bool false, .slice none 0 0] 197)).drewN q := ⟨_, rfl⟩
  have hB : Below w.heap.size w W := by rw [hW]; exact below_drewN2 ((((Below.refl _ _).alloc (by simp) _).alloc (by simp) _).alloc (by simp; omega) _)
  have hs : w.heap.size + 3 ≤ W.heap.size := by rw [hW]; simp
  have a0 : W.cell? ⟨w.heap.size, 0, none⟩ = some (.bool false) := by rw [hW]; simp [go_sem]
  have a1 : W.cell? ⟨w.heap.size, 1, none⟩ = some (.slice A1 n1 c1) := by rw [hW]; simp [go_sem]
  have b0 : W.cell? ⟨w.heap.size + 1, 0, none⟩ = some (.bool true) := by rw [hW]; simp [go_sem]
  have b1 : W.cell? ⟨w.heap.size + 1, 1, none⟩ = some (.slice A2 n2 c2) := by rw [hW]; simp [go_sem]
  have r0 : W.cell? ⟨w.heap.size + 1 + 1, 0, none⟩ = some (.bool false) := by rw [hW]; simp [go_sem]
  have r1 : W.cell? ⟨w.heap.size + 1 + 1, 1, none⟩ = some (.slice none 0 0) := by rw [hW]; simp [go_sem]
  have f0 : W.frozen? ⟨w.heap.size + 1 + 1, 0, none⟩ = false := by rw [hW]; simp [go_sem]
  have f1 : W.frozen? ⟨w.heap.size + 1 + 1, 1, none⟩ = false := by rw [hW]; simp [go_sem]
  have HX : Hid (Boxes w (.bool false) (.slice A1 n1 c1) (.bool true) (.slice A2 n2 c2) W) := Lib.hid ⟨hB, hs, a0, a1, b0, b1⟩
  rw [← hW]
  clear hW hB hs a0 a1 b0 b1
  go_region_held3 (fun w' => Boxes w (.bool false) (.slice A1 n1 c1) (.bool true) (.slice A2 n2 c2) w' ∧ w'.cell? ⟨w.heap.size, 0, none⟩ = some (.bool false) ∧ w'.cell? ⟨w.heap.size, 1, none⟩ = some (.slice A1 n1 c1) ∧ w'.cell? ⟨w.heap.size + 1, 0, none⟩ = some (.bool true) ∧ w'.cell? ⟨w.heap.size + 1, 1, none⟩ = some (.slice A2 n2 c2))
    (first
      | exact (Boxes.drew HX.out).all
      | exact (Boxes.call (And.left (by assumption)) (by assumption)).all
      | exact (Boxes.set (And.left (by assumption)) _ _).all
      | exact (Boxes.set (Boxes.set (And.left (by assumption)) _ _) _ _).all)
    (first
      | (go_at_call 142; refine (ri_minus _ A1 A2 c1 c2 _ _ (cd a) (cd b) HN1.out HN2.out (by rw [HN1.out]; omega) (cd_len_le HAB.out) (by rw [DA.out, DB.out]; exact HAB.out) (sm_cd a) (sm_cd b) (H1.out.below (Boxes.below (And.left (by assumption)))) (H2.out.below (Boxes.below (And.left (by assumption))))).mono ?_; rintro e w2 ⟨A, cap, R, rfl, hR, hc, hS, hv, hD, hF, hb2⟩; have HR := Lib.hid hR; have HS := Lib.hid hS; have HV := Lib.hid hv; have HD := Lib.hid hD; obtain ⟨k0, k1, l0, l1⟩ := Boxes.cells (Boxes.drew HX.out) hb2 r0 r1 f0 f1; have HX2 := Lib.hid (Boxes.call (Boxes.drew HX.out) hb2); have HF := Lib.hid hF; clear hR hS hv hD hF)
      | (go_at_call 139; refine (ri_trim _ _ A cap _ R HR.out (by rw [HR.out]; omega) (by rw [HR.out]; exact hc) HS.out (HD.out)).mono ?_; rintro e w3 ⟨cap', rfl, hD3, hl3, hb3⟩; have HD3 := Lib.hid (hD3.below hb3); obtain ⟨k2, k3, l2, l3⟩ := Boxes.cells HX2.out hb3 k0 k1 l0 l1; have HX3 := Lib.hid (Boxes.call HX2.out hb3); clear hD3))
  all_goals go_wp2_with fail
  have hF := fun ad (h : A = some ad) => (show ad.block ≠ w.heap.size + 1 + 1 by have := HF.out ad h; have hs := HX.out.size; have e : W.heap.size ≤ ad.block := this; omega)
  have hV : dv R = a - b := by rw [HV.out, DA.out, DB.out]
  have hsz := HX3.out.size
  refine bodyPost_ret (v := .agg #[.bool (false && decide (0 < dv R)), .slice A (cd (dv R)).length cap']) (by simp [results, Tryz.results121, go_sem, k2, k3]) rfl ⟨A, cap', by rw [hV], ?_, by rw [← hV]; exact hl3, ?_⟩
  · rw [← hV]; exact (HD3.out.set hF 0 _).set hF 1 _
  · exact store2 HX3.out.below (by omega) _ _
set_option maxRecDepth 100000 in
set_option maxHeartbeats 4000000 in
theorem ri_add_pn_lt (w : World) (A1 A2 : Option Addr) (c1 c2 n1 n2 a b : Nat) (hn1 : (cd a).length = n1) (hn2 : (cd b).length = n2) (hl1 : n1 ≤ 800) (hl2 : n2 ≤ 800) (h1 : DigA w A1 (cd a)) (h2 : DigA w A2 (cd b)) (hab : a < b) :
    Calls Tryz.prog 121 #[.agg #[.bool false, .slice A1 n1 c1], .agg #[.bool true, .slice A2 n2 c2]] w (RetT true (b - a) w) := by
  have H1 := Lib.hid h1
  have H2 := Lib.hid h2
  have HN1 := Lib.hid hn1
  have HN2 := Lib.hid hn2
  have da := dv_cd a
  have db := dv_cd b
  have DA := Lib.hid da
  have DB := Lib.hid db
  clear h1 h2 da db hn1 hn2
  have HAB := Lib.hid hab
  have hsg : sgn a b < 0 := by unfold sgn; rw [if_neg (by omega), if_pos (by omega)]; decide
  have hsg' : ¬ 0 ≤ sgn a b := by omega
  clear hab
  go_enter Tryz.func121, Tryz.ntmps121
  go_upto_region 5 with (go_at_call 141; refine (ri_cmp _ A1 A2 c1 c2 _ _ a b HN1.out HN2.out (by rw [HN1.out]; omega) (((H1.out.alloc _).alloc _).alloc _) (((H2.out.alloc _).alloc _).alloc _)).mono ?_; rintro e w1 ⟨rfl, q, rfl⟩)
  obtain ⟨W, hW⟩ : ∃ W, W = (((w.alloc (.cells #[.bool false, .slice A1 n1 c1] 197)).alloc (.cells #[.bool true, .slice A2 n2 c2] 197)).alloc (.cells #[.bool false, .slice none 0 0] 197)).drewN q := ⟨_, rfl⟩
  have hB : Below w.heap.size w W := by rw [hW]; exact below_drewN2 ((((Below.refl _ _).alloc (by simp) _).alloc (by simp) _).alloc (by simp; omega) _)
  have hs : w.heap.size + 3 ≤ W.heap.size := by rw [hW]; simp
  have a0 : W.cell? ⟨w.heap.size, 0, none⟩ = some (.bool false) := by rw [hW]; simp [go_sem]
  have a1 : W.cell? ⟨w.heap.size, 1, none⟩ = some (.slice A1 n1 c1) := by rw [hW]; simp [go_sem]
  have b0 : W.cell? ⟨w.heap.size + 1, 0, none⟩ = some (.bool true) := by rw [hW]; simp [go_sem]
  have b1 : W.cell? ⟨w.heap.size + 1, 1, none⟩ = some (.slice A2 n2 c2) := by rw [hW]; simp [go_sem]
  have r0 : W.cell? ⟨w.heap.size + 1 + 1, 0, none⟩ = some (.bool false) := by rw [hW]; simp [go_sem]
  have r1 : W.cell? ⟨w.heap.size + 1 + 1, 1, none⟩ = some (.slice none 0 0) := by rw [hW]; simp [go_sem]
  have f0 : W.frozen? ⟨w.heap.size + 1 + 1, 0, none⟩ = false := by rw [hW]; simp [go_sem]
  have f1 : W.frozen? ⟨w.heap.size + 1 + 1, 1, none⟩ = false := by rw [hW]; simp [go_sem]
  have HX : Hid (Boxes w (.bool false) (.slice A1 n1 c1) (.bool true) (.slice A2 n2 c2) W) := Lib.hid ⟨hB, hs, a0, a1, b0, b1⟩
  rw [← hW]
  clear hW hB hs a0 a1 b0 b1
  go_region_held3 (fun w' => Boxes w (.bool false) (.slice A1 n1 c1) (.bool true) (.slice A2 n2 c2) w' ∧ w'.cell? ⟨w.heap.size, 0, none⟩ = some (.bool false) ∧ w'.cell? ⟨w.heap.size, 1, none⟩ = some (.slice A1 n1 c1) ∧ w'.cell? ⟨w.heap.size + 1, 0, none⟩ = some (.bool true) ∧ w'.cell? ⟨w.heap.size + 1, 1, none⟩ = some (.slice A2 n2 c2))
    (first
      | exact (Boxes.drew HX.out).all
      | exact (Boxes.call (And.left (by assumption)) (by assumption)).all
      | exact (Boxes.set (And.left (by assumption)) _ _).all
      | exact (Boxes.set (Boxes.set (And.left (by assumption)) _ _) _ _).all)
    (first
      | (go_at_call 142; refine (ri_minus _ A2 A1 c2 c1 _ _ (cd b) (cd a) HN2.out HN1.out (by rw [HN2.out]; omega) (cd_len_le (Nat.le_of_lt HAB.out)) (by rw [DA.out, DB.out]; exact Nat.le_of_lt HAB.out) (sm_cd b) (sm_cd a) (H2.out.below (Boxes.below (And.left (by assumption)))) (H1.out.below (Boxes.below (And.left (by assumption))))).mono ?_; rintro e w2 ⟨A, cap, R, rfl, hR, hc, hS, hv, hD, hF, hb2⟩; have HR := Lib.hid hR; have HS := Lib.hid hS; have HV := Lib.hid hv; have HD := Lib.hid hD; obtain ⟨k0, k1, l0, l1⟩ := Boxes.cells (Boxes.drew HX.out) hb2 r0 r1 f0 f1; have HX2 := Lib.hid (Boxes.call (Boxes.drew HX.out) hb2); have HF := Lib.hid hF; clear hR hS hv hD hF)
      | (go_at_call 139; refine (ri_trim _ _ A cap _ R HR.out (by rw [HR.out]; omega) (by rw [HR.out]; exact hc) HS.out (HD.out)).mono ?_; rintro e w3 ⟨cap', rfl, hD3, hl3, hb3⟩; have HD3 := Lib.hid (hD3.below hb3); obtain ⟨k2, k3, l2, l3⟩ := Boxes.cells HX2.out hb3 k0 k1 l0 l1; have HX3 := Lib.hid (Boxes.call HX2.out hb3); clear hD3))
  all_goals go_wp2_with fail
  have hF := fun ad (h : A = some ad) => (show ad.block ≠ w.heap.size + 1 + 1 by have := HF.out ad h; have hs := HX.out.size; have e : W.heap.size ≤ ad.block := this; omega)
  have hV : dv R = b - a := by rw [HV.out, DA.out, DB.out]
  have hsz := HX3.out.size
  refine bodyPost_ret (v := .agg #[.bool (true && decide (0 < dv R)), .slice A (cd (dv R)).length cap']) (by simp [results, Tryz.results121, go_sem, k2, k3]) rfl ⟨A, cap', by rw [hV], ?_, by rw [← hV]; exact hl3, ?_⟩
  · rw [← hV]; exact (HD3.out.set hF 0 _).set hF 1 _
  · exact store2 HX3.out.below (by omega) _ _
/-- An Int in memory. -/
def IntV (w : World) (A : Option Addr) (n c : Nat) (z : Int) : Prop := (cd z.natAbs).length = n ∧ n ≤ c ∧ n ≤ 800 ∧ DigA w A (cd z.natAbs)
theorem IntV.below {w w' : World} {A : Option Addr} {n c : Nat} {z : Int} (h : IntV w A n c z) (hb : Below w.heap.size w w') : IntV w' A n c z := ⟨h.1, h.2.1, h.2.2.1, h.2.2.2.below hb⟩
theorem RetI.form {z : Int} {w w' : World} {e : Ending} (h : RetI z w e w') (hz : z.natAbs < 10 ^ 800) : ∃ A n c, e = .returned (.agg #[.bool (decide (z < 0)), .slice A n c]) ∧ IntV w' A n c z ∧ Below w.heap.size w w' := by
  obtain ⟨A, cap, n, h1, h2, h3, h4, h5⟩ := h
  exact ⟨A, n, cap, h1, ⟨h2, h3, by rw [← h2]; exact cd_len hz, h4⟩, h5⟩
theorem ri_add (w : World) (A1 A2 : Option Addr) (c1 c2 n1 n2 : Nat) (a b : Int) (h1 : IntV w A1 n1 c1 a) (h2 : IntV w A2 n2 c2 b) :
    Calls Tryz.prog 121 #[.agg #[.bool (decide (a < 0)), .slice A1 n1 c1], .agg #[.bool (decide (b < 0)), .slice A2 n2 c2]] w (RetI (a + b) w) := by
  obtain ⟨l1, _, m1, d1⟩ := h1
  obtain ⟨l2, _, m2, d2⟩ := h2
  have hA := add_int a b
  have fin : Calls Tryz.prog 121 #[.agg #[.bool (decide (a < 0)), .slice A1 n1 c1], .agg #[.bool (decide (b < 0)), .slice A2 n2 c2]] w (RetT (addM (decide (a < 0)) (decide (b < 0)) a.natAbs b.natAbs) (addN (decide (a < 0)) (decide (b < 0)) a.natAbs b.natAbs) w) := by
    clear hA
    generalize decide (a < 0) = s1
    generalize decide (b < 0) = s2
    unfold addM addN
    cases s1 <;> cases s2
    · exact ri_add_pp w A1 A2 c1 c2 n1 n2 _ _ l1 l2 m1 m2 d1 d2
    · by_cases hc : b.natAbs ≤ a.natAbs
      · simp only [Bool.false_eq_true, if_false, if_pos hc]
        exact ri_add_pn_ge w A1 A2 c1 c2 n1 n2 _ _ l1 l2 m1 m2 d1 d2 hc
      · simp only [Bool.false_eq_true, if_false, if_neg hc]
        exact ri_add_pn_lt w A1 A2 c1 c2 n1 n2 _ _ l1 l2 m1 m2 d1 d2 (by omega)
    · by_cases hc : b.natAbs ≤ a.natAbs
      · simp only [Bool.true_eq_false, if_false, if_pos hc]
        exact ri_add_np_ge w A1 A2 c1 c2 n1 n2 _ _ l1 l2 m1 m2 d1 d2 hc
      · simp only [Bool.true_eq_false, if_false, if_neg hc]
        exact ri_add_np_lt w A1 A2 c1 c2 n1 n2 _ _ l1 l2 m1 m2 d1 d2 (by omega)
    · exact ri_add_nn w A1 A2 c1 c2 n1 n2 _ _ l1 l2 m1 m2 d1 d2
  exact fin.mono fun e w' h => ret_trim h hA.1 hA.2
end
/- matchguardref05: Neg, Sub, Compare, Of. -/
section
open Go.RowKit

def Bd (z : Int) : Prop := z.natAbs < 10 ^ 800
/-- An Int in memory, with its sign. -/
structure IntS (w : World) (s : Bool) (A : Option Addr) (n c : Nat) (z : Int) : Prop where
  sign : decide (z < 0) = s
  v : IntV w A n c z
theorem IntS.below {w w' : World} {s : Bool} {A : Option Addr} {n c : Nat} {z : Int} (h : IntS w s A n c z) (hb : Below w.heap.size w w') : IntS w' s A n c z := ⟨h.1, h.2.below hb⟩
theorem IntS.alloc {w : World} {s : Bool} {A : Option Addr} {n c : Nat} {z : Int} (h : IntS w s A n c z) (o : Obj) : IntS (w.alloc o) s A n c z := h.below ((Below.refl _ _).alloc (Nat.le_refl _) _)
/-- An Int comes back, in memory that can be read; nothing that there was is changed. -/
def RetF (z : Int) (w : World) (e : Ending) (w' : World) : Prop := ∃ s A n c, e = .returned (.agg #[.bool s, .slice A n c]) ∧ IntS w' s A n c z ∧ Below w.heap.size w w'
theorem DigA.store {w : World} {A : Option Addr} {D : List Nat} (h : DigA w A D) {b : Nat} {x : Bool} (c0 : w.cell? ⟨b, 0, none⟩ = some (.bool x)) (y : Bool) (v : Value) : DigA ((w.setCell ⟨b, 0, none⟩ (.bool y)).setCell ⟨b, 1, none⟩ v) A D := by
  by_cases h0 : D = []
  · exact .inl h0
  · have hp : 0 < D.length := by cases D with
      | nil => exact absurd rfl h0
      | cons _ _ => simp
    obtain ⟨g, hg, _, hc⟩ := h.at 0 hp
    have hne : ∀ ad, A = some ad → ad.block ≠ b := fun ad e e2 => by
      rw [hg] at e; injection e with e; subst e; simp only at e2; subst e2
      rw [c0] at hc; injection hc with hc; cases hc
    exact (h.set hne 0 _).set hne 1 _
theorem IntS.store {w : World} {s : Bool} {A : Option Addr} {n c : Nat} {z : Int} (h : IntS w s A n c z) {b : Nat} {x : Bool} (c0 : w.cell? ⟨b, 0, none⟩ = some (.bool x)) (y : Bool) (v : Value) : IntS ((w.setCell ⟨b, 0, none⟩ (.bool y)).setCell ⟨b, 1, none⟩ v) s A n c z :=
  ⟨h.1, h.2.1, h.2.2.1, h.2.2.2.1, h.2.2.2.2.store c0 y v⟩
theorem ri_addF (w : World) (s1 s2 : Bool) (A1 A2 : Option Addr) (c1 c2 n1 n2 : Nat) (a b : Int) (hz : Bd (a + b)) (h1 : IntS w s1 A1 n1 c1 a) (h2 : IntS w s2 A2 n2 c2 b) :
    Calls Tryz.prog 121 #[.agg #[.bool s1, .slice A1 n1 c1], .agg #[.bool s2, .slice A2 n2 c2]] w (RetF (a + b) w) := by
  obtain ⟨e1, v1⟩ := h1
  obtain ⟨e2, v2⟩ := h2
  subst e1 e2
  exact (ri_add w A1 A2 c1 c2 n1 n2 a b v1 v2).mono fun _ _ h => by
    obtain ⟨A, n, c, h1, h2, h3⟩ := h.form hz
    exact ⟨_, A, n, c, h1, ⟨rfl, h2⟩, h3⟩
set_option maxRecDepth 100000 in
set_option maxHeartbeats 1000000 in
theorem ri_neg0 (s : Bool) (w : World) (A : Option Addr) (c n k : Nat) (hn : (cd k).length = n) (hl : n ≤ 800) (hc : n ≤ c) (h : DigA w A (cd k)) :
    Calls Tryz.prog 131 #[.agg #[.bool s, .slice A n c]] w (RetT (!s) k w) := by
  have H := Lib.hid h
  have HN := Lib.hid hn
  have DK := Lib.hid (dv_cd k)
  clear h hn
  cases s
  all_goals
    go_enter Tryz.func131, Tryz.ntmps131
    go_wp2_with (go_at_call 139; refine (ri_trim _ _ A c _ (cd k) HN.out (by rw [HN.out]; omega) (by rw [HN.out]; exact hc) (sm_cd k) ((H.out.alloc _).alloc _)).mono ?_; rintro e w3 ⟨cap', rfl, hD3, hl3, hb3⟩; rw [DK.out] at hD3 hl3; rw [DK.out]; have HD3 := Lib.hid hD3; obtain ⟨hc3, hf3, hz3⟩ := after (w.heap.size + 2) hb3 (by simp) (by simp); clear hD3)
  · refine bodyPost_ret (v := .agg #[.bool (true && decide (0 < k)), .slice A (cd k).length cap']) (by simp [results, Tryz.results131, go_sem, hc3]) rfl ⟨A, cap', rfl, ?_, hl3, ?_⟩
    · exact (HD3.out.below hb3).store (by rw [hc3 _ _ (by omega)]; simp [go_sem]; rfl) _ _
    · exact store2 ((((Below.refl _ _).alloc (by simp) _).alloc (by simp) _).trans (hb3.mono (by simp; omega))) (by omega) _ _
  · refine bodyPost_ret (v := .agg #[.bool (false && decide (0 < k)), .slice A (cd k).length cap']) (by simp [results, Tryz.results131, go_sem, hc3]) rfl ⟨A, cap', rfl, ?_, hl3, ?_⟩
    · exact (HD3.out.below hb3).store (by rw [hc3 _ _ (by omega)]; simp [go_sem]; rfl) _ _
    · exact store2 ((((Below.refl _ _).alloc (by simp) _).alloc (by simp) _).trans (hb3.mono (by simp; omega))) (by omega) _ _
theorem ri_neg (w : World) (s : Bool) (A : Option Addr) (c n : Nat) (z : Int) (h : IntS w s A n c z) :
    Calls Tryz.prog 131 #[.agg #[.bool s, .slice A n c]] w (RetF (-z) w) := by
  obtain ⟨hs, h1, h2, h3, h4⟩ := h
  refine (ri_neg0 s w A c n z.natAbs h1 h3 h2 h4).mono fun e w' h => ?_
  obtain ⟨A', cap', e1, e2, e3, e4⟩ := h
  have hk : (-z).natAbs = z.natAbs := Int.natAbs_neg z
  refine ⟨_, A', _, cap', e1, ⟨?_, by rw [hk], e3, by omega, by rw [hk]; exact e2⟩, e4⟩
  rw [← hs]
  by_cases hz : z < 0
  · simp only [hz, decide_true, Bool.not_true, Bool.false_and]; rw [decide_eq_false_iff_not]; omega
  · simp only [hz, decide_false, Bool.not_false, Bool.true_and]; rw [decide_eq_decide]; omega
set_option maxRecDepth 100000 in
set_option maxHeartbeats 2000000 in
theorem ri_sub (w : World) (s1 s2 : Bool) (A1 A2 : Option Addr) (c1 c2 n1 n2 : Nat) (a b : Int) (hz : Bd (a - b)) (h1 : IntS w s1 A1 n1 c1 a) (h2 : IntS w s2 A2 n2 c2 b) :
    Calls Tryz.prog 129 #[.agg #[.bool s1, .slice A1 n1 c1], .agg #[.bool s2, .slice A2 n2 c2]] w (RetF (a - b) w) := by
  have H1 := Lib.hid h1
  have H2 := Lib.hid h2
  have ES : Hid (a + -b = a - b) := Lib.hid (by omega)
  clear h1 h2
  go_enter Tryz.func129, Tryz.ntmps129
  go_upto_region 1 with fail
  obtain ⟨W, hW⟩ : ∃ W, W = ((w.alloc (.cells #[.bool s1, .slice A1 n1 c1] 197)).alloc (.cells #[.bool s2, .slice A2 n2 c2] 197)).alloc (.cells #[.bool false, .slice none 0 0] 197) := ⟨_, rfl⟩
  have HX : Hid (Boxes w (.bool s1) (.slice A1 n1 c1) (.bool s2) (.slice A2 n2 c2) W) := Lib.hid ⟨by rw [hW]; exact (((Below.refl _ _).alloc (by simp) _).alloc (by simp) _).alloc (by simp; omega) _, by rw [hW]; simp, by rw [hW]; simp [go_sem], by rw [hW]; simp [go_sem], by rw [hW]; simp [go_sem], by rw [hW]; simp [go_sem]⟩
  have r0 : W.cell? ⟨w.heap.size + 1 + 1, 0, none⟩ = some (.bool false) := by rw [hW]; simp [go_sem]
  have r1 : W.cell? ⟨w.heap.size + 1 + 1, 1, none⟩ = some (.slice none 0 0) := by rw [hW]; simp [go_sem]
  have f0 : W.frozen? ⟨w.heap.size + 1 + 1, 0, none⟩ = false := by rw [hW]; simp [go_sem]
  have f1 : W.frozen? ⟨w.heap.size + 1 + 1, 1, none⟩ = false := by rw [hW]; simp [go_sem]
  rw [← hW]
  clear hW
  have HZ := Lib.hid (show Bd (a + -b) by rw [ES.out]; exact hz)
  go_region_held3 (fun w' => Boxes w (.bool s1) (.slice A1 n1 c1) (.bool s2) (.slice A2 n2 c2) w' ∧ w'.cell? ⟨w.heap.size, 0, none⟩ = some (.bool s1) ∧ w'.cell? ⟨w.heap.size, 1, none⟩ = some (.slice A1 n1 c1) ∧ w'.cell? ⟨w.heap.size + 1, 0, none⟩ = some (.bool s2) ∧ w'.cell? ⟨w.heap.size + 1, 1, none⟩ = some (.slice A2 n2 c2))
    (first
      | exact (Boxes.drew HX.out).all
      | exact (Boxes.call (And.left (by assumption)) (by assumption)).all
      | exact (Boxes.set (And.left (by assumption)) _ _).all
      | exact (Boxes.set (Boxes.set (And.left (by assumption)) _ _) _ _).all)
    (first
      | (go_at_call 131; refine (ri_neg _ s2 A2 c2 n2 b (H2.out.below (Boxes.below (And.left (by assumption))))).mono ?_; rintro e w2 ⟨s3, A, n, cap, rfl, hV, hb2⟩; have HV := Lib.hid hV; obtain ⟨k0, k1, l0, l1⟩ := Boxes.cells (Boxes.drew HX.out) hb2 r0 r1 f0 f1; have HX2 := Lib.hid (Boxes.call (Boxes.drew HX.out) hb2); clear hV)
      | (go_at_call 121; refine (ri_addF _ s1 s3 A1 A c1 cap n1 n a (-b) HZ.out (H1.out.below (Boxes.below (And.left (by assumption)))) HV.out).mono ?_; rintro e w3 ⟨s4, A', n', cap', rfl, hV3, hb3⟩; have HV3 := Lib.hid hV3; obtain ⟨k2, k3, l2, l3⟩ := Boxes.cells HX2.out hb3 k0 k1 l0 l1; have HX3 := Lib.hid (Boxes.call HX2.out hb3); clear hV3))
  all_goals go_wp2_with fail
  have hsz := HX3.out.size
  have hv := HV3.out.store k2 s4 (.slice A' n' cap')
  rw [ES.out] at hv
  refine bodyPost_ret (v := .agg #[.bool s4, .slice A' n' cap']) (by simp [results, Tryz.results129, go_sem, k2, k3]) rfl ⟨s4, A', n', cap', rfl, hv, ?_⟩
  exact store2 HX3.out.below (by omega) _ _
theorem cd_len_zero {z : Int} {n : Nat} (h : (cd z.natAbs).length = n) : (n = 0 ↔ z = 0) := by
  subst h
  constructor
  · intro h
    by_cases h0 : z.natAbs = 0
    · omega
    · have := (cd_len_lo h0).1; omega
  · rintro rfl; simp [cd]
set_option maxRecDepth 100000 in
set_option maxHeartbeats 2000000 in
theorem ri_order (w : World) (s1 s2 : Bool) (A1 A2 : Option Addr) (c1 c2 n1 n2 : Nat) (a b : Int) (hz : Bd (a - b)) (h1 : IntS w s1 A1 n1 c1 a) (h2 : IntS w s2 A2 n2 c2 b) :
    Calls Tryz.prog 99 #[.agg #[.bool s1, .slice A1 n1 c1], .agg #[.bool s2, .slice A2 n2 c2]] w (RetX (.int .i64 (sgn a b)) w) := by
  have H1 := Lib.hid h1
  have H2 := Lib.hid h2
  clear h1 h2
  go_enter Tryz.func99, Tryz.ntmps99
  go_upto_region 2 with (go_at_call 129; refine (ri_sub _ s1 s2 A1 A2 c1 c2 n1 n2 a b hz ((H1.out.alloc _).alloc _) ((H2.out.alloc _).alloc _)).mono ?_; rintro e w2 ⟨s, A, n, cap, rfl, hV, hb2⟩)
  have hbb : Below w.heap.size w w2 := (((Below.refl _ _).alloc (by simp) _).alloc (by simp) _).trans (hb2.mono (by simp; omega))
  have hsg := hV.sign
  have hln := cd_len_zero hV.v.1
  clear hb2 hV
  by_cases hlt : a < b
  · have e : Hid (sgn a b = -1) := Lib.hid (by unfold sgn; rw [if_neg (by omega), if_pos hlt])
    obtain rfl : true = s := by rw [← hsg]; simp; omega
    clear hsg hln hlt
    go_wp2
    go_ret
    exact ⟨by rw [e.out]; rfl, hbb.alloc hbb.size _⟩
  · obtain rfl : false = s := by rw [← hsg]; simp; omega
    by_cases heq : a = b
    · have e : Hid (sgn a b = 0) := Lib.hid (by unfold sgn; rw [if_pos heq])
      obtain rfl : n = 0 := hln.2 (by omega)
      clear hsg hln hlt heq
      go_wp2
      go_ret
      exact ⟨by rw [e.out]; rfl, hbb.alloc hbb.size _⟩
    · have e : Hid (sgn a b = 1) := Lib.hid (by unfold sgn; rw [if_neg heq, if_neg hlt])
      have hn : (0 : Int) < (n : Int) := by
        have : n ≠ 0 := fun h => by have := hln.1 h; omega
        omega
      clear hsg hln hlt heq
      go_wp2
      go_ret
      exact ⟨by rw [e.out]; rfl, hbb.alloc hbb.size _⟩
end
/- matchguardref05: Of. -/
section
open Go.RowKit

theorem of_step {o p r N : Nat} (h : o + p * r = N) : (o + p * (r % 10)) + p * 10 * (r / 10) = N := by
  rw [← h, Nat.mul_assoc, Nat.add_assoc, ← Nat.mul_add]
  congr 2
  omega
theorem pw_room {r k : Nat} (h : r < 10 ^ (20 - k)) (h0 : r ≠ 0) : k < 20 := by
  apply Nat.lt_of_not_le
  intro hk
  rw [Nat.sub_eq_zero_of_le hk] at h
  omega
theorem pw_next {r k : Nat} (h : r < 10 ^ (20 - k)) (hk : k < 20) : r / 10 < 10 ^ (20 - (k + 1)) := by
  rw [show 20 - k = (20 - (k + 1)) + 1 by omega, Nat.pow_succ] at h
  omega
theorem res_app {w W W2 : World} {v : Value} {n : Nat} {l : List Value} (hR : ResAt w W w.heap.size) (h : W.ownsRow (w.heap.size + 1) 3 1 v n l) (o : Obj) (hg : (W.alloc o).grownBy W2 v.ownBlock) : ResAt w W2 w.heap.size := by
  have hl := hR.lt
  have hne : some w.heap.size ≠ v.ownBlock := fun e => by have := own_block_ge h e.symm; omega
  have hb : W2.heap[w.heap.size]? = (W.alloc o).heap[w.heap.size]? := hg.block _ (by simp; omega) hne
  have c : ∀ i, W2.cell? ⟨w.heap.size, i, none⟩ = W.cell? ⟨w.heap.size, i, none⟩ := fun i => by rw [World.cell?_of_block (a := ⟨w.heap.size, i, none⟩) hb, World.cell?_alloc_past _ _ _ hl]
  have f : ∀ i, W2.frozen? ⟨w.heap.size, i, none⟩ = W.frozen? ⟨w.heap.size, i, none⟩ := fun i => by rw [World.frozen?_of_block (a := ⟨w.heap.size, i, none⟩) hb, World.frozen?_alloc_past _ _ _ hl]
  refine ⟨(hR.below.alloc hR.below.size o).grown hg (Nat.le_trans hR.below.size (by simp)) (fun k hk => by have := own_block_ge h hk; omega), Nat.le_refl _, ?_, by rw [c]; exact hR.c0, by rw [c]; exact hR.c1, by rw [f]; exact hR.f0, by rw [f]; exact hR.f1⟩
  have := hg.size; simp at this; omega
set_option maxRecDepth 100000 in
set_option maxHeartbeats 2000000 in
theorem ri_of_pos (N : Nat) (hN : N ≤ 9223372036854775808) (hmax : N < 9223372036854775808) (w : World) : Calls Tryz.prog 119 #[.int .i64 (N : Int)] w (RetF (N : Int) w) := by
  obtain ⟨i0, hi0⟩ : ∃ i, Tryz.prog.info? 3 = some i := Option.isSome_iff_exists.1 (by kernel_rfl)
  have hz0 : i0.zero = some (.int .i64 0) := by
    have : (Tryz.prog.info? 3).map (·.zero) = some (some (.int .i64 0)) := by kernel_rfl
    rw [hi0] at this; simpa using this
  have hy1 : i0.size = 1 := by
    have : (Tryz.prog.info? 3).map (·.size) = some 1 := by kernel_rfl
    rw [hi0] at this; simpa using this
  have hy2 : i0.bytes = 8 := by
    have : (Tryz.prog.info? 3).map (·.bytes) = some 8 := by kernel_rfl
    rw [hi0] at this; simpa using this
  have HI := Lib.hid hi0
  have HZ := Lib.hid hz0
  have HY1 := Lib.hid hy1
  have HY2 := Lib.hid hy2
  clear hi0 hz0 hy1 hy2
  have hsg : decide ((N : Int) < 0) = false := by simp
  have HSG := Lib.hid hsg
  have HB0 := Lib.hid (show N < 10 ^ 20 by omega)
  go_enter Tryz.func119, Tryz.ntmps119
  go_wp2
  clear hsg
  go_loopw [0, 4] (fun t v w' => ∃ (r : Nat) (R : List Nat), r ≤ N ∧ t = .int .i64 (r : Int) ∧ Hid (dv R + 10 ^ R.length * r = N) ∧ Hid (r < 10 ^ (20 - R.length)) ∧ R.length ≤ 20 ∧ Sm R ∧ ResAt w w' w.heap.size ∧ w'.ownsRow (w.heap.size + 1) 3 1 v R.length (dcs R)) (fun t _ _ => (intOf t).natAbs)
  case atStart => exact ⟨N, [], Nat.le_refl _, rfl, Lib.hid (by simp [dv]), Lib.hid HB0.out, by simp, (fun x hx => by cases hx), ResAt.new (Below.refl _ _) _ _ _ _, World.ownsRow_nil _ _ _ _⟩
  case round =>
    obtain ⟨r, R, hr, rfl, HK, HP, hR, hSR, hRes, hO⟩ := hrel
    obtain ⟨AR, capR, rfl⟩ := own_form2 hO
    have HSR := Lib.hid hSR
    have HR := Lib.hid hRes
    have HO := Lib.hid hO
    have hsz : w.heap.size + 1 ≤ wr.heap.size := hRes.lt
    clear hSR hRes hO
    by_cases h0 : r = 0
    · have HV : Hid (dv R = N) := Lib.hid (by have := HK.out; rw [h0] at this; simpa using this)
      subst h0
      have hB := HR.out.below
      have hcap := own_le HO.out
      have hd := dig_own HO.out
      have HD := Lib.hid hd
      clear hd
      go_wp2_with (go_at_call 139; refine (ri_trim _ _ AR capR _ R rfl (by omega) hcap HSR.out HD.out).mono ?_; rintro e w3 ⟨cap', rfl, hD3, hl3, hb3⟩; have HD3 := Lib.hid hD3; have HR3 := Lib.hid (HR.out.call hb3); have f0 := HR3.out.f0; have f1 := HR3.out.f1; obtain ⟨r0, c0⟩ := HR3.out.c0; obtain ⟨r1, r2, r3, c1⟩ := HR3.out.c1; clear hD3)
      refine bodyPost_ret (v := .agg #[.bool (false && decide (0 < dv R)), .slice AR (cd (dv R)).length cap']) (by simp [results, Tryz.results119, go_sem, c0, c1]) rfl ?_
      have hn : Int.natAbs (N : Int) = N := by omega
      refine ⟨_, AR, _, cap', rfl, ⟨?_, by rw [hn, HV.out], hl3, ?_, ?_⟩, store2 HR3.out.below (Nat.le_refl _) _ _⟩
      · rw [HV.out, HSG.out]; simp
      · have := cd_len (n := dv R) (k := 20) (by rw [HV.out]; exact HB0.out); omega
      · rw [hn, ← HV.out]; exact (HD3.out.below hb3).store c0 _ _
    · have hlen := pw_room HP.out h0
      obtain ⟨q, hq⟩ : ∃ q, q = r / 10 := ⟨_, rfl⟩
      obtain ⟨d, hd⟩ : ∃ d, d = r % 10 := ⟨_, rfl⟩
      have hd9 : d < 10 := by omega
      have HQ := Lib.hid hq
      have HDD := Lib.hid hd
      have H0 := Lib.hid h0
      have e1 : (r : Int) % 10 = (d : Int) := by omega
      have e2 : (r : Int) / 10 = (q : Int) := by omega
      have t0 : ((r : Int) == 0) = false := by rw [beq_eq_false_iff_ne]; omega
      have hd0 : ¬ (d : Int) < 0 := by omega
      clear hq hd h0
      go_wp2_with (at_builtin; (refine wpList_append_own _ rfl (.tmp 16) (.tmp 18) 41 rfl (w.heap.size + 1) 3 i0 _ 1 8 Tryz.underlying41 HI.out HZ.out HY1.out HY2.out rfl (by decide) _ R.length _ rfl (World.ownsRow.alloc HO.out _) ⟨wr.heap.size, 0, none⟩ 1 1 [.int .i64 (d : Int)] rfl rfl (cell_one_new _ _ _) (by simp [Value.oneCell']) (by unfold maxLen; omega) (by omega) (by simp; omega) ?_; intro v4 w4 hO4 hg4 hi4; clear hi4; have HO4 := Lib.hid hO4; have HR4 := Lib.hid (res_app HR.out HO.out _ hg4); obtain ⟨A4, cap4, rfl⟩ := own_form2 hO4; clear hO4 hg4))
      go_roundw
      case rel =>
        go_light
        refine ⟨q, R ++ [d], by have := HQ.out; omega, rfl, Lib.hid ?_, Lib.hid ?_, by simp; omega, sm_snoc HSR.out hd9, HR4.out, by rw [dcs_snoc, List.length_append]; exact HO4.out⟩
        · rw [dv_snoc, List.length_append, List.length_singleton, Nat.pow_succ, HQ.out, HDD.out]
          exact of_step HK.out
        · rw [List.length_append, List.length_singleton, HQ.out]; exact pw_next HP.out hlen
      case measure => simp [intOf]; have := HQ.out; have := H0.out; omega
end
/- matchguardref05: From. -/
section
open Go.RowKit

theorem ri_of0 (w : World) : Calls Tryz.prog 119 #[.int .i64 0] w (RetF 0 w) := ri_of_pos 0 (by decide) (by decide) w
theorem ri_of1 (w : World) : Calls Tryz.prog 119 #[.int .i64 1] w (RetF 1 w) := ri_of_pos 1 (by decide) (by decide) w
/-- An Int in a box that may be written. -/
structure BoxI (w : World) (P : Nat) (s : Bool) (A : Option Addr) (n c : Nat) (z : Int) : Prop where
  c0 : w.cell? ⟨P, 0, none⟩ = some (.bool s)
  c1 : w.cell? ⟨P, 1, none⟩ = some (.slice A n c)
  f0 : w.frozen? ⟨P, 0, none⟩ = false
  f1 : w.frozen? ⟨P, 1, none⟩ = false
  v : IntS w s A n c z
theorem BoxI.lt {w : World} {P : Nat} {s : Bool} {A : Option Addr} {n c : Nat} {z : Int} (h : BoxI w P s A n c z) : P < w.heap.size := World.block_lt_of_cell? w _ h.c0
theorem BoxI.call {w w' : World} {P : Nat} {s : Bool} {A : Option Addr} {n c : Nat} {z : Int} (h : BoxI w P s A n c z) (hb : Below w.heap.size w w') : BoxI w' P s A n c z :=
  ⟨by rw [hb.cell (p := ⟨P, 0, none⟩) h.lt]; exact h.c0, by rw [hb.cell (p := ⟨P, 1, none⟩) h.lt]; exact h.c1, by rw [hb.frozen (p := ⟨P, 0, none⟩) h.lt]; exact h.f0, by rw [hb.frozen (p := ⟨P, 1, none⟩) h.lt]; exact h.f1, h.v.below hb⟩
theorem BoxI.drew {w : World} {P : Nat} {s : Bool} {A : Option Addr} {n c : Nat} {z : Int} (h : BoxI w P s A n c z) : BoxI w.drew P s A n c z := ⟨h.c0, h.c1, h.f0, h.f1, ⟨h.v.1, h.v.2⟩⟩
/-- another Int is stored into the box -/
theorem BoxI.set {w : World} {P : Nat} {s s' : Bool} {A A' : Option Addr} {n c n' c' : Nat} {z z' : Int} (h : BoxI w P s A n c z) (h' : IntS w s' A' n' c' z') : BoxI ((w.setCell ⟨P, 0, none⟩ (.bool s')).setCell ⟨P, 1, none⟩ (.slice A' n' c')) P s' A' n' c' z' := by
  refine ⟨?_, ?_, ?_, ?_, h'.store h.c0 _ _⟩
  · rw [World.cell?_setCell_other _ _ _ _ (by simp), World.cell?_setCell_same' _ _ _ (by rw [h.c0]; rfl)]
  · rw [World.cell?_setCell_same' _ _ _ (by rw [World.cell?_setCell_other _ _ _ _ (by simp), h.c1]; rfl)]
  · rw [World.frozen?_setCell, World.frozen?_setCell]; exact h.f0
  · rw [World.frozen?_setCell, World.frozen?_setCell]; exact h.f1
theorem BoxI.new {w : World} {s : Bool} {A : Option Addr} {n c : Nat} {z : Int} (h : IntS w s A n c z) : BoxI (w.alloc (.cells #[.bool s, .slice A n c] 197)) w.heap.size s A n c z :=
  ⟨by simp [go_sem], by simp [go_sem], by simp [go_sem], by simp [go_sem], h.alloc _⟩
theorem ResAt.set {w w' : World} {B P : Nat} (h : ResAt w w' B) (hP : P ≠ B) (hw : w.heap.size ≤ P) (v0 v1 : Value) : ResAt w ((w'.setCell ⟨P, 0, none⟩ v0).setCell ⟨P, 1, none⟩ v1) B :=
  ⟨(h.below.setCell (by exact hw) _).setCell (by exact hw) _, h.nb, by rw [World.size_setCell, World.size_setCell]; exact h.lt, by rw [World.cell?_setCell_far _ _ _ _ hP, World.cell?_setCell_far _ _ _ _ hP]; exact h.c0, by rw [World.cell?_setCell_far _ _ _ _ hP, World.cell?_setCell_far _ _ _ _ hP]; exact h.c1, by rw [World.frozen?_setCell, World.frozen?_setCell]; exact h.f0, by rw [World.frozen?_setCell, World.frozen?_setCell]; exact h.f1⟩
/-- From's state behind bit k: the result's block, the bits, the number of the bits from k on -/
structure FrAt (w : World) (v Q P k : Nat) (w' : World) : Prop where
  res : ResAt w w' (w.heap.size + 1)
  bits : BitsAt w' Q v.testBit
  q : w.heap.size + 2 ≤ Q
  qp : Q < P
  box : ∃ s A n c, BoxI w' P s A n c ((v / 2 ^ k : Nat) : Int)
theorem bit_up (v k : Nat) : v / 2 ^ k = v / 2 ^ (k + 1) + v / 2 ^ (k + 1) + (if v.testBit k then 1 else 0) := by
  rw [Nat.pow_succ, ← Nat.div_div_eq_div_mul, Nat.testBit_eq_decide_div_mod_eq]
  by_cases h : v / 2 ^ k % 2 = 1
  · simp only [h, decide_true, if_true]; omega
  · simp only [h, decide_false, Bool.false_eq_true, if_false]; omega
theorem bd_v {v : Nat} (h : v < 2 ^ 128) (k : Nat) : v / 2 ^ k < 2 ^ 128 := Nat.lt_of_le_of_lt (Nat.div_le_self _ _) h
theorem bd_small {n : Nat} (h : n < 2 ^ 140) : Bd (n : Int) := by
  unfold Bd
  have e : (n : Int).natAbs = n := Int.natAbs_natCast n
  rw [e]
  exact Nat.lt_trans h (by decide +kernel)
set_option maxRecDepth 100000 in
set_option maxHeartbeats 2000000 in
theorem ri_from (v : Nat) (hv : v < 2 ^ 128) (w : World) : Calls Tryz.prog 130 #[.agg #[.int .u64 (hi v), .int .u64 (lo v)]] w (RetF v w) := by
  have HV := Lib.hid hv
  clear hv
  go_enter Tryz.func130, Tryz.ntmps130
  go_wp2_with (first
    | (go_at_call 150; refine (read_any _ _).mono ?_; rintro e w1 ⟨rfl, hx⟩) | rw [zero_bits] | refine wpList_store_newbits rfl rfl rfl rfl ?_
    | (go_at_call 119; refine (ri_of0 _).mono ?_; rintro e w2 ⟨s, A, n, c, rfl, hI, hb2⟩))
  have hstart : FrAt w v w1.heap.size w2.heap.size 128 (w2.alloc (.cells #[.bool s, .slice A n c] 197)) := by
    have r0 := ResAt.new (w := w) (W := w.alloc (.cells #[.int .u64 (hi v), .int .u64 (lo v)] 103)) ((Below.refl _ _).alloc (by simp) _) false none 0 0
    simp only [World.size_alloc] at r0
    have s1 : w.heap.size + 2 ≤ w1.heap.size := by have := hx.size; simpa using this
    have s2 : w1.heap.size + 1 ≤ w2.heap.size := by have := hb2.size; simpa using this
    have al : ∀ (W : World) (o : Obj), Below W.heap.size W (W.alloc o) := fun W o => (Below.refl _ _).alloc (Nat.le_refl _) _
    refine ⟨(((r0.call hx).call (al _ _)).call hb2).call (al _ _), ((BitsAt.new w1 v.testBit _).below hb2 (by simp)).past (by omega) _, s1, by omega, s, A, n, c, ?_⟩
    have e : ((v / 2 ^ 128 : Nat) : Int) = 0 := by rw [Nat.div_eq_of_lt HV.out]; rfl
    rw [e]
    exact BoxI.new hI
  generalize w1.heap.size = Q at hstart ⊢
  generalize w2.heap.size = P at hstart ⊢
  generalize w2.alloc (.cells #[.bool s, .slice A n c] 197) = W0 at hstart ⊢
  clear hI hb2 hx
  go_loopw [5] (fun i w' => ∃ k : Nat, k ≤ 128 ∧ i = .int .i64 ((k : Int) - 1) ∧ FrAt w v Q P k w') (fun i _ => (intOf i + 1).toNat)
  case atStart => exact ⟨128, by omega, rfl, hstart⟩
  case round =>
    obtain ⟨k1, hk, rfl, hR⟩ := hrel
    clear hstart
    have HR := Lib.hid hR
    obtain ⟨s1, A1, n1, c1, hBx⟩ := hR.box
    have HX := Lib.hid hBx
    have b0 := hBx.c0
    have b1 := hBx.c1
    have f0 := hBx.f0
    have f1 := hBx.f1
    have hqp := hR.qp
    have hqw := hR.q
    cases k1 with
    | zero =>
      obtain ⟨r0, c0⟩ := hR.res.c0
      obtain ⟨r1, r2, r3, cc1⟩ := hR.res.c1
      have g0 := hR.res.f0
      have g1 := hR.res.f1
      clear hR hBx
      go_wp2
      refine bodyPost_ret (v := .agg #[.bool s1, .slice A1 n1 c1]) (by simp [results, Tryz.results130, go_sem, c0, cc1]) rfl ⟨s1, A1, n1, c1, rfl, ?_, store2 HR.out.res.below (by omega) _ _⟩
      have h := HX.out.v.store c0 s1 (.slice A1 n1 c1)
      have e : ((v / 2 ^ 0 : Nat) : Int) = v := by simp
      rw [e] at h
      exact h
    | succ k =>
      have hkk : (k : Int) < 128 := by omega
      have ek : ((k + 1 : Nat) : Int) - 1 = (k : Int) := by omega
      rw [ek]
      have hbit : wr.cell? ⟨Q, k, none⟩ = some (.bool (v.testBit k)) := hR.bits.cell k (by omega)
      obtain ⟨z, hz⟩ : ∃ z, z = v / 2 ^ (k + 1) := ⟨_, rfl⟩
      have HZ := Lib.hid hz
      have HX1 : Hid (IntS wr s1 A1 n1 c1 (z : Int)) := Lib.hid (by rw [hz]; exact hBx.v)
      have HB2 : Hid (Bd ((z : Int) + (z : Int))) := Lib.hid (by
        have : (z : Int) + (z : Int) = ((z + z : Nat) : Int) := by omega
        rw [this]; apply bd_small; have := bd_v HV.out (k + 1); rw [hz]; omega)
      have HB3 : Hid (Bd ((z : Int) + (z : Int) + 1)) := Lib.hid (by
        have : (z : Int) + (z : Int) + 1 = ((z + z + 1 : Nat) : Int) := by omega
        rw [this]; apply bd_small; have := bd_v HV.out (k + 1); rw [hz]; omega)
      have hBU := bit_up v k
      rw [← hz] at hBU
      clear hR hBx ek hz
      have hPQ : P ≠ w.heap.size + 1 := by omega
      have hPw : w.heap.size ≤ P := by omega
      by_cases ht : v.testBit k = true
      · have HU : Hid (((v / 2 ^ k : Nat) : Int) = (z : Int) + (z : Int) + 1) := Lib.hid (by rw [hBU, if_pos ht]; omega)
        have HTB := Lib.hid ht
        clear hBU ht hbit
        go_upto_region 8 with (go_at_call 121; refine (ri_addF _ s1 s1 A1 A1 c1 c1 n1 n1 _ _ HB2.out HX1.out HX1.out).mono ?_; rintro e w4 ⟨s4, A4, n4, c4, rfl, hI4, hb4⟩; have hBox4 := HX.out.call hb4; have e0 := hBox4.c0; have e1 := hBox4.c1; have e2 := hBox4.f0; have e3 := hBox4.f1; have HI4 := Lib.hid hI4; have HX4 := Lib.hid (hBox4.set hI4); have HS4 := Lib.hid (ResAt.set (HR.out.res.call hb4) hPQ hPw (.bool s4) (.slice A4 n4 c4)); have hb4' := (HR.out.bits.below hb4 (by have := HX.out.lt; omega)); have HT4 := Lib.hid ((hb4'.far ⟨P, 0, none⟩ (by simp; omega) (.bool s4)).far ⟨P, 1, none⟩ (by simp; omega) (.slice A4 n4 c4)); have hbit4 := HT4.out.cell k (by omega); rw [HTB.out] at hbit4; clear hBox4 hI4 hb4 hb4')
        clear e0 e1 e2 e3 b0 b1 f0 f1 hbit4
        generalize (w4.setCell ⟨P, 0, none⟩ (.bool s4)).setCell ⟨P, 1, none⟩ (.slice A4 n4 c4) = w5 at HX4 HS4 HT4 ⊢
        have b0 := HX4.out.c0
        have b1 := HX4.out.c1
        go_region_with (first
          | (go_at_call 119; refine (ri_of1 _).mono ?_; rintro e w6 ⟨s6, A6, n6, c6, rfl, hI6, hb6⟩; have hX6 := BoxI.call HX4.out.drew hb6; have d0 := hX6.c0; have d1 := hX6.c1; have HX6 := Lib.hid hX6; have HI6 := Lib.hid hI6; have HS6 := Lib.hid (ResAt.call HS4.out.drew hb6); have HT6 := Lib.hid (BitsAt.below HT4.out.drew hb6 (by have := HX4.out.lt; exact Nat.lt_trans hqp this)); clear hX6 hI6 hb6)
          | (go_at_call 121; refine (ri_addF _ s4 s6 A4 A6 c4 c6 n4 n6 _ _ HB3.out HX6.out.v HI6.out).mono ?_; rintro e w7 ⟨s7, A7, n7, c7, rfl, hI7, hb7⟩; have hX7 := BoxI.call HX6.out hb7; have g0 := hX7.c0; have g1 := hX7.c1; have g2 := hX7.f0; have g3 := hX7.f1; have HX7 := Lib.hid (hX7.set hI7); have HS7 := Lib.hid (ResAt.set (HS6.out.call hb7) hPQ hPw (.bool s7) (.slice A7 n7 c7)); have hT7 := BitsAt.below HT6.out hb7 (by have := HX6.out.lt; omega); have HT7 := Lib.hid ((hT7.far ⟨P, 0, none⟩ (by simp; omega) (.bool s7)).far ⟨P, 1, none⟩ (by simp; omega) (.slice A7 n7 c7)); clear hX7 hI7 hb7 hT7))
        all_goals go_wp2
        all_goals go_roundw
        all_goals go_light
        all_goals try (case measure => simp [intOf])
        all_goals exact ⟨k, by omega, rfl, HS7.out, HT7.out, hqw, hqp, s7, A7, n7, c7, by rw [HU.out]; exact HX7.out⟩
      · have HU : Hid (((v / 2 ^ k : Nat) : Int) = (z : Int) + (z : Int)) := Lib.hid (by rw [hBU, if_neg ht]; omega)
        have ht2 : v.testBit k = false := by simpa using ht
        have HTB := Lib.hid ht2
        clear hBU ht ht2 hbit
        go_wp2_with (go_at_call 121; refine (ri_addF _ s1 s1 A1 A1 c1 c1 n1 n1 _ _ HB2.out HX1.out HX1.out).mono ?_; rintro e w4 ⟨s4, A4, n4, c4, rfl, hI4, hb4⟩; have hBox4 := HX.out.call hb4; have e0 := hBox4.c0; have e1 := hBox4.c1; have e2 := hBox4.f0; have e3 := hBox4.f1; have HI4 := Lib.hid hI4; have HX4 := Lib.hid (hBox4.set hI4); have HS4 := Lib.hid (ResAt.set (HR.out.res.call hb4) hPQ hPw (.bool s4) (.slice A4 n4 c4)); have hb4' := (HR.out.bits.below hb4 (by have := HX.out.lt; omega)); have HT4 := Lib.hid ((hb4'.far ⟨P, 0, none⟩ (by simp; omega) (.bool s4)).far ⟨P, 1, none⟩ (by simp; omega) (.slice A4 n4 c4)); have hbit4 := HT4.out.cell k (by omega); rw [HTB.out] at hbit4; clear hBox4 hI4 hb4 hb4')
        go_roundw
        all_goals go_light
        all_goals try (case measure => simp [intOf])
        all_goals exact ⟨k, by omega, rfl, HS4.out, HT4.out, hqw, hqp, s4, A4, n4, c4, by rw [HU.out]; exact HX4.out⟩
end
/- matchguardref05: Limit and Fits. -/
section
open Go.RowKit

/-- the digits of 2^128, the lowest first -/
def D128 : List Nat := [6, 5, 4, 1, 1, 2, 8, 6, 7, 1, 3, 4, 7, 0, 6, 4, 7, 3, 3, 6, 4, 3, 6, 4, 8, 3, 9, 0, 2, 9, 6, 6, 3, 2, 8, 2, 0, 4, 3]
theorem d128_cd : cd 340282366920938463463374607431768211456 = D128 := by
  rw [cd, if_neg (by decide)]
  iterate 38 rw [dg_hi (by decide)]
  rw [dg_lo (by decide)]
  rfl
/-- the bytes of its text -/
def S128 : ByteArray := ⟨#[51, 52, 48, 50, 56, 50, 51, 54, 54, 57, 50, 48, 57, 51, 56, 52, 54, 51, 52, 54, 51, 51, 55, 52, 54, 48, 55, 52, 51, 49, 55, 54, 56, 50, 49, 49, 52, 53, 54]⟩
theorem s128_lit : S128 = ⟨#[51, 52, 48, 50, 56, 50, 51, 54, 54, 57, 50, 48, 57, 51, 56, 52, 54, 51, 52, 54, 51, 51, 55, 52, 54, 48, 55, 52, 51, 49, 55, 54, 56, 50, 49, 49, 52, 53, 54]⟩ := rfl
theorem s128_size : S128.size = 39 := rfl
theorem s128_at : ∀ i, (h : i < 39) → (((S128[i]'h).toNat : Int) - 48) % 256 = ((gd D128 (38 - i) : Nat) : Int) := by decide +kernel
theorem lim_snoc (D : List Nat) (k : Nat) (hk : k < D.length) : D.take (k + 1) = D.take k ++ [gd D k] := by
  unfold gd
  rw [List.take_add_one, List.getD_eq_getElem?_getD, List.getElem?_eq_getElem hk]
  rfl
theorem d128_len : D128.length = 39 := rfl
set_option maxRecDepth 100000 in
set_option maxHeartbeats 2000000 in
theorem ri_limit (w : World) : Calls Tryz.prog 143 #[] w (RetF 340282366920938463463374607431768211456 w) := by
  obtain ⟨i0, hi0⟩ : ∃ i, Tryz.prog.info? 3 = some i := Option.isSome_iff_exists.1 (by kernel_rfl)
  have hz0 : i0.zero = some (.int .i64 0) := by
    have : (Tryz.prog.info? 3).map (·.zero) = some (some (.int .i64 0)) := by kernel_rfl
    rw [hi0] at this; simpa using this
  have hy1 : i0.size = 1 := by
    have : (Tryz.prog.info? 3).map (·.size) = some 1 := by kernel_rfl
    rw [hi0] at this; simpa using this
  have hy2 : i0.bytes = 8 := by
    have : (Tryz.prog.info? 3).map (·.bytes) = some 8 := by kernel_rfl
    rw [hi0] at this; simpa using this
  have HI := Lib.hid hi0
  have HZ := Lib.hid hz0
  have HY1 := Lib.hid hy1
  have HY2 := Lib.hid hy2
  clear hi0 hz0 hy1 hy2
  go_enter Tryz.func143, Tryz.ntmps143
  go_wp2
  rw [← s128_lit]
  go_loopw [2, 3] (fun v i w' => ∃ k : Nat, k ≤ 39 ∧ i = .int .i64 (38 - (k : Int)) ∧ ResAt w w' w.heap.size ∧ w'.ownsRow (w.heap.size + 1) 3 1 v k (dcs (D128.take k))) (fun _ i _ => (intOf i + 1).toNat)
  case atStart => exact ⟨0, by omega, rfl, ResAt.new (Below.refl _ _) _ _ _ _, World.ownsRow_nil _ _ _ _⟩
  case round =>
    obtain ⟨k, hk, rfl, hRes, hO⟩ := hrel
    obtain ⟨AR, capR, rfl⟩ := own_form2 hO
    have HR := Lib.hid hRes
    have HO := Lib.hid hO
    have hsz : w.heap.size + 1 ≤ wr.heap.size := hRes.lt
    clear hRes hO
    by_cases hlt : k < 39
    · obtain ⟨i, hi⟩ : ∃ i : Nat, 38 - (k : Int) = i := ⟨38 - k, by omega⟩
      have hi2 : i < 39 := by omega
      have hs := s128_size
      have hs2 : i < S128.size := by omega
      have hs3 : (i : Int) < (S128.size : Int) := by omega
      rw [hi]
      have hb : (((S128[i]'hs2).toNat : Int) - 48) % 256 = ((gd D128 (38 - i) : Nat) : Int) := s128_at i hi2
      obtain ⟨d, hd⟩ : ∃ d, gd D128 (38 - i) = d := ⟨_, rfl⟩
      have ek : 38 - i = k := by omega
      rw [hd] at hb
      rw [ek] at hd
      have HD := Lib.hid hd
      have hlen : (dcs (D128.take k)).length = k := by rw [dcs_len, List.length_take, d128_len]; omega
      clear hd ek hs
      go_wp2_with (at_builtin; (refine wpList_append_own _ rfl (.tmp 11) (.tmp 17) 41 rfl (w.heap.size + 1) 3 i0 _ 1 8 Tryz.underlying41 HI.out HZ.out HY1.out HY2.out rfl (by decide) _ k _ rfl (World.ownsRow.alloc HO.out _) ⟨wr.heap.size, 0, none⟩ 1 1 [.int .i64 (d : Int)] rfl rfl (cell_one_new _ _ _) (by simp [Value.oneCell']) (by unfold maxLen; omega) (by omega) (by simp; omega) ?_; intro v4 w4 hO4 hg4 hi4; clear hi4; have HO4 := Lib.hid hO4; have HR4 := Lib.hid (res_app HR.out HO.out _ hg4); obtain ⟨A4, cap4, rfl⟩ := own_form2 hO4; clear hO4 hg4))
      go_roundw
      case rel =>
        go_light
        refine ⟨k + 1, by omega, ?_, HR4.out, ?_⟩
        · rw [← hi]; simp; omega
        · rw [lim_snoc D128 k (by rw [d128_len]; omega), dcs_snoc, HD.out]; exact HO4.out
      case measure => simp [intOf]
    · obtain rfl : k = 39 := by omega
      have e : D128.take 39 = D128 := rfl
      have hO := HO.out
      rw [e] at hO
      have hcap := own_le hO
      have hD := dig_own hO
      have HD := Lib.hid hD
      have hB := HR.out.below
      have f0 := HR.out.f0
      have f1 := HR.out.f1
      obtain ⟨r0, c0⟩ := HR.out.c0
      obtain ⟨r1, r2, r3, c1⟩ := HR.out.c1
      clear hD hO e
      go_wp2
      refine bodyPost_ret (v := .agg #[.bool false, .slice AR 39 capR]) (by simp [results, Tryz.results143, go_sem, c0, c1]) rfl ?_
      refine ⟨_, AR, _, capR, rfl, ⟨by decide, ⟨by rw [show (340282366920938463463374607431768211456 : Int).natAbs = 340282366920938463463374607431768211456 from rfl, d128_cd]; rfl, hcap, by decide, ?_⟩⟩, store2 hB (Nat.le_refl _) _ _⟩
      rw [show (340282366920938463463374607431768211456 : Int).natAbs = 340282366920938463463374607431768211456 from rfl, d128_cd]
      exact HD.out.store c0 _ _
/-- an Int in a box -/
structure FitW (w : World) (s : Bool) (A : Option Addr) (n c : Nat) (z : Int) (w' : World) : Prop where
  below : Below w.heap.size w w'
  bx : BoxI w' w.heap.size s A n c z
theorem FitW.call {w w1 w2 : World} {s : Bool} {A : Option Addr} {n c : Nat} {z : Int} (h : FitW w s A n c z w1) (hb : Below w1.heap.size w1 w2) : FitW w s A n c z w2 := ⟨h.below.trans (hb.mono h.below.size), h.bx.call hb⟩
theorem FitW.drew {w w1 : World} {s : Bool} {A : Option Addr} {n c : Nat} {z : Int} (h : FitW w s A n c z w1) : FitW w s A n c z w1.drew := ⟨h.below.drew, h.bx.drew⟩
theorem FitW.all {w w' : World} {s : Bool} {A : Option Addr} {n c : Nat} {z : Int} (h : FitW w s A n c z w') : FitW w s A n c z w' ∧ w'.cell? ⟨w.heap.size, 0, none⟩ = some (.bool s) ∧ w'.cell? ⟨w.heap.size, 1, none⟩ = some (.slice A n c) := ⟨h, h.bx.c0, h.bx.c1⟩
set_option maxRecDepth 100000 in
set_option maxHeartbeats 2000000 in
theorem ri_fits (w : World) (s : Bool) (A : Option Addr) (n c : Nat) (z : Int) (hz : Bd (z - 340282366920938463463374607431768211456)) (h : IntS w s A n c z) :
    Calls Tryz.prog 122 #[.agg #[.bool s, .slice A n c]] w (RetX (.bool (decide (0 ≤ z ∧ z < 340282366920938463463374607431768211456))) w) := by
  obtain ⟨b, hb⟩ : ∃ b, decide (0 ≤ z ∧ z < 340282366920938463463374607431768211456) = b := ⟨_, rfl⟩
  rw [hb]
  have HS := Lib.hid h.sign
  have b1 := BoxI.new h
  have HW := Lib.hid (show FitW w s A n c z (w.alloc (.cells #[.bool s, .slice A n c] 197)) from ⟨(Below.refl _ _).alloc (by simp) _, b1⟩)
  have HB := Lib.hid hb
  have HZ := Lib.hid hz
  clear h b1 hb hz
  cases s
  · obtain ⟨k, hk⟩ : ∃ k, k = sgn z 340282366920938463463374607431768211456 := ⟨_, rfl⟩
    have hk2 : decide (k < 0) = b := by
      rw [← HB.out, hk, decide_eq_decide]
      have := HS.out
      simp at this
      unfold sgn; split <;> (try split) <;> omega
    have KL : Hid (∀ W, Calls Tryz.prog 143 #[] W (RetF 340282366920938463463374607431768211456 W)) := Lib.hid fun W => ri_limit W
    have KC : Hid (∀ W s1 s2 A1 A2 c1 c2 n1 n2, IntS W s1 A1 n1 c1 z → IntS W s2 A2 n2 c2 340282366920938463463374607431768211456 → Calls Tryz.prog 99 #[.agg #[.bool s1, .slice A1 n1 c1], .agg #[.bool s2, .slice A2 n2 c2]] W (RetX (.int .i64 k) W)) := Lib.hid fun W s1 s2 A1 A2 c1 c2 n1 n2 h1 h2 => by rw [hk]; exact ri_order W s1 s2 A1 A2 c1 c2 n1 n2 z _ HZ.out h1 h2
    have hI0 := HW.out.drew.bx.v
    clear hk HS HB HZ
    go_enter Tryz.func122, Tryz.ntmps122
    go_upto_region 1 with fail
    go_region_held3 (fun w' => FitW w false A n c z w' ∧ w'.cell? ⟨w.heap.size, 0, none⟩ = some (.bool false) ∧ w'.cell? ⟨w.heap.size, 1, none⟩ = some (.slice A n c))
      (first
        | exact (FitW.drew HW.out).all
        | exact (FitW.call (And.left (by assumption)) (by assumption)).all)
      (first
        | (go_at_call 143; refine (KL.out _).mono ?_; rintro e v1 ⟨s2, A2, n2, c2, rfl, hJ, hv1⟩)
        | (go_at_call 99; refine (KC.out _ _ _ _ _ _ _ _ _ ?_ ?_).mono ?_; (focus (repeat (first | assumption | refine IntS.below ?_ (by assumption)))); (focus (repeat (first | assumption | refine IntS.below ?_ (by assumption)))); rintro e v2 ⟨rfl, hv2⟩; have HF := Lib.hid ((FitW.call (And.left (by assumption)) hv2).below)))
    all_goals go_wp2
    all_goals go_ret
    all_goals exact ⟨by rw [← hk2]; rfl, HF.out⟩
  · have hb2 : false = b := by
      rw [← HB.out, eq_comm, decide_eq_false_iff_not]
      have := HS.out
      simp at this
      omega
    subst hb2
    have HF := HW.out.below.drew
    have c0 := HW.out.drew.bx.c0
    have c1 := HW.out.drew.bx.c1
    clear HS HB HZ
    go_enter Tryz.func122, Tryz.ntmps122
    go_upto_region 1 with fail
    go_region
    all_goals go_wp2
    all_goals go_ret
    all_goals exact ⟨rfl, HF⟩
end
end Go.Proofs.YtodmkmoglchoeaaGreatDoor
