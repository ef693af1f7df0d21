/- Contracts, joined: GBtP, GBtW. -/
import Derived.Test.YthakjhjfooeljaaGBg
import Derived.Test.YthakjhjfooeljaaNInv
import Derived.Test.YthakjhjfooeljaaGRWin
namespace Go.Proofs.Ythakjhjfooeljaa
/- Two installed entries out of choices, made in a region that draws its order. -/
section
open Go.RowKit

/-- An entry in memory. -/
structure EntR where
  a : Option Addr
  n : Nat
  c : Nat
  a2 : Option Addr
  n2 : Nat
  c2 : Nat
  e : EntryD
def agg5 (r : EntR) : Value := .agg #[.int .i64 r.e.table, .slice r.a r.n r.c, .int .i64 r.e.prio, .int .i64 r.e.action, .slice r.a2 r.n2 r.c2]
def ins7 (r : EntR) (n : Int) : Array Value := #[.int .i64 r.e.table, .slice r.a r.n r.c, .int .i64 r.e.prio, .int .i64 r.e.action, .slice r.a2 r.n2 r.c2, .int .i64 n, .int .i64 0]
def ptr (k : Nat) : Value := .pointer (some ⟨k, 0, none⟩)
/-- Its rows stay while only the choices and the two boxes change. -/
def KeptE (K : Nat) (A B : Value) (w : World) (r : EntR) : Prop := ∀ w2 : World, w.heap.size ≤ w2.heap.size → (∀ k, k < w.heap.size → k ≠ K → ptr k ≠ A → ptr k ≠ B → w2.heap[k]? = w.heap[k]?) → RowV 8 MatchV w2.heap.size w2 (.slice r.a r.n r.c) r.e.ms ∧ RowV 2 ValV w2.heap.size w2 (.slice r.a2 r.n2 r.c2) r.e.args
theorem ptr_ne {a b : Nat} (h : a ≠ b) : ptr a ≠ ptr b := fun e => by
  unfold ptr at e
  injection e with e
  injection e with e
  injection e with e
  exact h e
theorem ptr_undef (k : Nat) : ptr k ≠ undef := fun e => by cases e
theorem KeptE.call {K : Nat} {A B : Value} {w w' : World} {r : EntR} (h : KeptE K A B w r) (hg : w.grownBy w' (some K)) : KeptE K A B w' r :=
  fun w2 hz hs => h w2 (Nat.le_trans hg.size hz) fun k hk hK hA hB => (hs k (Nat.lt_of_lt_of_le hk hg.size) hK hA hB).trans (hg.block k hk (fun e => hK (by injection e)))
theorem KeptE.allocA {K : Nat} {B : Value} {w : World} {r : EntR} (h : KeptE K undef B w r) (o : Obj) : KeptE K (ptr w.heap.size) B (w.alloc o) r :=
  fun w2 hz hs => h w2 (by have : (w.alloc o).heap.size = w.heap.size + 1 := by simp
                           omega) fun k hk hK _ hB => (hs k (by have : (w.alloc o).heap.size = w.heap.size + 1 := by simp
                                                                omega) hK (ptr_ne (by omega)) hB).trans (((Below.refl w.heap.size w).alloc (Nat.le_refl _) o).block k hk)
theorem KeptE.allocB {K : Nat} {A : Value} {w : World} {r : EntR} (h : KeptE K A undef w r) (o : Obj) : KeptE K A (ptr w.heap.size) (w.alloc o) r :=
  fun w2 hz hs => h w2 (by have : (w.alloc o).heap.size = w.heap.size + 1 := by simp
                           omega) fun k hk hK hA _ => (hs k (by have : (w.alloc o).heap.size = w.heap.size + 1 := by simp
                                                                omega) hK hA (ptr_ne (by omega))).trans (((Below.refl w.heap.size w).alloc (Nat.le_refl _) o).block k hk)
theorem KeptE.storeA {K P : Nat} {B : Value} {w w' : World} {r : EntR} (h : KeptE K (ptr P) B w r) (hw : w.grownBy w' (some P)) : KeptE K (ptr P) B w' r :=
  fun w2 hz hs => h w2 (Nat.le_trans hw.size hz) fun k hk hK hA hB => (hs k (Nat.lt_of_lt_of_le hk hw.size) hK hA hB).trans (hw.block k hk (fun e => hA (by injection e with e; rw [e])))
theorem KeptE.storeB {K P : Nat} {A : Value} {w w' : World} {r : EntR} (h : KeptE K A (ptr P) w r) (hw : w.grownBy w' (some P)) : KeptE K A (ptr P) w' r :=
  fun w2 hz hs => h w2 (Nat.le_trans hw.size hz) fun k hk hK hA hB => (hs k (Nat.lt_of_lt_of_le hk hw.size) hK hA hB).trans (hw.block k hk (fun e => hB (by injection e with e; rw [e])))
theorem KeptE.new {K : Nat} {A B : Value} {W w' : World} {r : EntR} (hm : RowH 8 MatchV W.heap.size w'.heap.size w' (.slice r.a r.n r.c) r.e.ms) (ha : RowH 2 ValV W.heap.size w'.heap.size w' (.slice r.a2 r.n2 r.c2) r.e.args) (hK : K < W.heap.size) (hA : ∀ k, W.heap.size ≤ k → ptr k ≠ A) (hB : ∀ k, W.heap.size ≤ k → ptr k ≠ B) : KeptE K A B w' r :=
  fun w2 hz hs => by
    have hS : SameB W.heap.size w'.heap.size w' w2 := ⟨hz, fun k h1 h2 => hs k h2 (by omega) (hA k h1) (hB k h1)⟩
    exact ⟨hm w2 _ hS hz, ha w2 _ hS hz⟩
def BtG (K : Nat) (S : Value) (wh nn mm : Int) (x : SchemaD) (t : TableD) (i : Nat) (w : World) (A B u : Value) : Prop := match i with
  | 0 => u = ptr K
  | 1 => u = S
  | 2 => u = .int .i64 wh
  | 3 => ∃ r, u = agg5 r ∧ EntFit x t r.e ∧ KeptE K A B w r
  | 4 => u = .int .i64 nn
  | 5 => ∃ r, u = .agg (ins7 r nn) ∧ EntFit x t r.e ∧ KeptE K A B w r
  | 6 => u = ptr K
  | 7 => u = S
  | 8 => u = .int .i64 wh
  | 9 => ∃ r, u = agg5 r ∧ EntFit x t r.e ∧ KeptE K A B w r
  | 10 => u = .int .i64 mm
  | 11 => ∃ r, u = .agg (ins7 r mm) ∧ EntFit x t r.e ∧ KeptE K A B w r
  | _ => True
theorem BtG.mono {K : Nat} {S : Value} {wh nn mm : Int} {x : SchemaD} {t : TableD} {i : Nat} {w w' : World} {A B A' B' u : Value} (hk : ∀ r, KeptE K A B w r → KeptE K A' B' w' r) (hi : i < 12) (h : BtG K S wh nn mm x t i w A B u) : BtG K S wh nn mm x t i w' A' B' u := by
  match i, hi, h with
  | 0, _, h => exact h
  | 1, _, h => exact h
  | 2, _, h => exact h
  | 3, _, ⟨r, h1, h2, h3⟩ => exact ⟨r, h1, h2, hk r h3⟩
  | 4, _, h => exact h
  | 5, _, ⟨r, h1, h2, h3⟩ => exact ⟨r, h1, h2, hk r h3⟩
  | 6, _, h => exact h
  | 7, _, h => exact h
  | 8, _, h => exact h
  | 9, _, ⟨r, h1, h2, h3⟩ => exact ⟨r, h1, h2, hk r h3⟩
  | 10, _, h => exact h
  | 11, _, ⟨r, h1, h2, h3⟩ => exact ⟨r, h1, h2, hk r h3⟩
/-- A box: made, and then filled. -/
def BtB (K : Nat) (W5 : World) (x : SchemaD) (t : TableD) (n : Int) (w : World) (A B C : Value) (full : Bool) : Prop := ∃ P, C = ptr P ∧ W5.heap.size ≤ P ∧ P < w.heap.size ∧ (full = false → w.heap[P]? = some (.cells #[.int .i64 0, .slice none 0 0, .int .i64 0, .int .i64 0, .slice none 0 0, .int .i64 0, .int .i64 0] 60 (0, 0))) ∧ (full = true → ∃ r, w.heap[P]? = some (.cells (ins7 r n) 60 (0, 0)) ∧ EntFit x t r.e ∧ KeptE K A B w r)
structure BtJ (K D : Nat) (l : List Nat) (W5 : World) (S : Value) (wh nn mm : Int) (x : SchemaD) (t : TableD) (listed : Array Bool) (w : World) (v : Nat → Value) : Prop where
  size : listed.size = 16
  gr : W5.grownBy w (some K)
  co : ∃ p, CoAt K D l p w
  f : ∀ i, i < 12 → listed.getD i false = true → BtG K S wh nn mm x t i w (v 15) (v 16) (v (22 + i))
  p0 : listed.getD 12 false = false → v 15 = undef ∧ listed.getD 14 false = false
  q0 : listed.getD 13 false = false → v 16 = undef ∧ listed.getD 15 false = false
  p : listed.getD 12 false = true → BtB K W5 x t nn w (v 15) (v 16) (v 15) (listed.getD 14 false)
  q : listed.getD 13 false = true → BtB K W5 x t mm w (v 15) (v 16) (v 16) (listed.getD 15 false)
  ne : listed.getD 12 false = true → listed.getD 13 false = true → v 15 ≠ v 16
theorem BtB.kept {K : Nat} {W5 : World} {x : SchemaD} {t : TableD} {n : Int} {w w' : World} {A B A' B' C : Value} {full : Bool} (h : BtB K W5 x t n w A B C full) (row : Option Nat) (hg : w.grownBy w' row) (hr : ∀ P, C = ptr P → W5.heap.size ≤ P → P < w.heap.size → some P ≠ row) (hk : ∀ r, KeptE K A B w r → KeptE K A' B' w' r) : BtB K W5 x t n w' A' B' C full := by
  obtain ⟨P, e, h1, h2, h3, h4⟩ := h
  have hb := hg.block P h2 (hr P e h1 h2)
  refine ⟨P, e, h1, Nat.lt_of_lt_of_le h2 hg.size, fun hf => hb.trans (h3 hf), fun hf => ?_⟩
  obtain ⟨r, a, b, c⟩ := h4 hf
  exact ⟨r, hb.trans a, b, hk r c⟩
theorem grown_set7 {k : Nat} (w : World) (v0 v1 v2 v3 v4 v5 v6 : Value) : w.grownBy (((((((w.setCell ⟨k, 0, none⟩ v0).setCell ⟨k, 1, none⟩ v1).setCell ⟨k, 2, none⟩ v2).setCell ⟨k, 3, none⟩ v3).setCell ⟨k, 4, none⟩ v4).setCell ⟨k, 5, none⟩ v5).setCell ⟨k, 6, none⟩ v6) (some k) := (((((((grown_set w k 0 v0).trans (grown_set _ k 1 v1)).trans (grown_set _ k 2 v2)).trans (grown_set _ k 3 v3)).trans (grown_set _ k 4 v4)).trans (grown_set _ k 5 v5)).trans (grown_set _ k 6 v6))
theorem blk_set7 {w : World} {k : Nat} {a0 a1 a2 a3 a4 a5 a6 : Value} {T : TypeId} (h : w.heap[k]? = some (.cells #[a0, a1, a2, a3, a4, a5, a6] T (0, 0))) (v0 v1 v2 v3 v4 v5 v6 : Value) : ((((((((w.setCell ⟨k, 0, none⟩ v0).setCell ⟨k, 1, none⟩ v1).setCell ⟨k, 2, none⟩ v2).setCell ⟨k, 3, none⟩ v3).setCell ⟨k, 4, none⟩ v4).setCell ⟨k, 5, none⟩ v5).setCell ⟨k, 6, none⟩ v6)).heap[k]? = some (.cells #[v0, v1, v2, v3, v4, v5, v6] T (0, 0)) := by
  have h1 : ((w.setCell ⟨k, 0, none⟩ v0)).heap[k]? = some (.cells #[v0, a1, a2, a3, a4, a5, a6] T (0, 0)) := blk_set h 0 v0
  have h2 : (((w.setCell ⟨k, 0, none⟩ v0).setCell ⟨k, 1, none⟩ v1)).heap[k]? = some (.cells #[v0, v1, a2, a3, a4, a5, a6] T (0, 0)) := blk_set h1 1 v1
  have h3 : ((((w.setCell ⟨k, 0, none⟩ v0).setCell ⟨k, 1, none⟩ v1).setCell ⟨k, 2, none⟩ v2)).heap[k]? = some (.cells #[v0, v1, v2, a3, a4, a5, a6] T (0, 0)) := blk_set h2 2 v2
  have h4 : (((((w.setCell ⟨k, 0, none⟩ v0).setCell ⟨k, 1, none⟩ v1).setCell ⟨k, 2, none⟩ v2).setCell ⟨k, 3, none⟩ v3)).heap[k]? = some (.cells #[v0, v1, v2, v3, a4, a5, a6] T (0, 0)) := blk_set h3 3 v3
  have h5 : ((((((w.setCell ⟨k, 0, none⟩ v0).setCell ⟨k, 1, none⟩ v1).setCell ⟨k, 2, none⟩ v2).setCell ⟨k, 3, none⟩ v3).setCell ⟨k, 4, none⟩ v4)).heap[k]? = some (.cells #[v0, v1, v2, v3, v4, a5, a6] T (0, 0)) := blk_set h4 4 v4
  have h6 : (((((((w.setCell ⟨k, 0, none⟩ v0).setCell ⟨k, 1, none⟩ v1).setCell ⟨k, 2, none⟩ v2).setCell ⟨k, 3, none⟩ v3).setCell ⟨k, 4, none⟩ v4).setCell ⟨k, 5, none⟩ v5)).heap[k]? = some (.cells #[v0, v1, v2, v3, v4, v5, a6] T (0, 0)) := blk_set h5 5 v5
  have h7 : ((((((((w.setCell ⟨k, 0, none⟩ v0).setCell ⟨k, 1, none⟩ v1).setCell ⟨k, 2, none⟩ v2).setCell ⟨k, 3, none⟩ v3).setCell ⟨k, 4, none⟩ v4).setCell ⟨k, 5, none⟩ v5).setCell ⟨k, 6, none⟩ v6)).heap[k]? = some (.cells #[v0, v1, v2, v3, v4, v5, v6] T (0, 0)) := blk_set h6 6 v6
  exact h7

theorem BtJ.val {K D : Nat} {l : List Nat} {W5 : World} {S : Value} {wh nn mm : Int} {x : SchemaD} {t : TableD} {listed : Array Bool} {w w' : World} {v : Nat → Value} (h : BtJ K D l W5 S wh nn mm x t listed w v) (hKW : K < W5.heap.size) {i : Nat} (hi : i < 12) (hg : w.grownBy w' (some K)) (hc : ∃ p, CoAt K D l p w') {u : Value} (hx : BtG K S wh nn mm x t i w' (v 15) (v 16) u) : BtJ K D l W5 S wh nn mm x t (listed.setIfInBounds i true) w' (updv v (22 + i) u) := by
  have g : ∀ j, j ≠ i → (listed.setIfInBounds i true).getD j false = listed.getD j false := fun j hj => by rw [getD_setN (by rw [h.size]; omega), if_neg (Ne.symm hj)]
  have hv : ∀ j, j ≠ 22 + i → updv v (22 + i) u j = v j := fun j hj => by rw [updv, if_neg hj]
  have v15 := hv 15 (by omega)
  have v16 := hv 16 (by omega)
  have hrow : ∀ (C : Value) (P : Nat), C = ptr P → W5.heap.size ≤ P → P < w.heap.size → some P ≠ some K := fun _ P _ h1 _ e => by injection e with e; omega
  refine ⟨by rw [Array.size_setIfInBounds]; exact h.size, h.gr.trans hg, hc, fun j hj hl => ?_, fun hl => ?_, fun hl => ?_, fun hl => ?_, fun hl => ?_, fun h1 h2 => ?_⟩
  · rw [v15, v16]
    by_cases e : j = i
    · subst e
      rw [updv, if_pos rfl]
      exact hx
    · rw [g j e] at hl
      rw [hv (22 + j) (by omega)]
      exact (h.f j hj hl).mono (fun r hr => hr.call hg) hj
  · rw [g 12 (by omega)] at hl
    rw [v15, g 14 (by omega)]
    exact h.p0 hl
  · rw [g 13 (by omega)] at hl
    rw [v16, g 15 (by omega)]
    exact h.q0 hl
  · rw [g 12 (by omega)] at hl
    rw [v15, v16, g 14 (by omega)]
    exact (h.p hl).kept _ hg (hrow _) (fun r hr => hr.call hg)
  · rw [g 13 (by omega)] at hl
    rw [v15, v16, g 15 (by omega)]
    exact (h.q hl).kept _ hg (hrow _) (fun r hr => hr.call hg)
  · rw [g 12 (by omega)] at h1
    rw [g 13 (by omega)] at h2
    rw [v15, v16]
    exact h.ne h1 h2
theorem BtJ.alA {K D : Nat} {l : List Nat} {W5 : World} {S : Value} {wh nn mm : Int} {x : SchemaD} {t : TableD} {listed : Array Bool} {w : World} {v : Nat → Value} (h : BtJ K D l W5 S wh nn mm x t listed w v) (hl0 : listed.getD 12 false = false) : BtJ K D l W5 S wh nn mm x t (listed.setIfInBounds 12 true) (w.alloc (.cells #[.int .i64 0, .slice none 0 0, .int .i64 0, .int .i64 0, .slice none 0 0, .int .i64 0, .int .i64 0] 60)) (updv v 15 (ptr w.heap.size)) := by
  have g : ∀ j, j ≠ 12 → (listed.setIfInBounds 12 true).getD j false = listed.getD j false := fun j hj => by rw [getD_setN (by rw [h.size]; omega), if_neg (Ne.symm hj)]
  have gt : (listed.setIfInBounds 12 true).getD 12 false = true := by rw [getD_setN (by rw [h.size]; omega), if_pos rfl]
  have hv : ∀ j, j ≠ 15 → updv v 15 (ptr w.heap.size) j = v j := fun j hj => by rw [updv, if_neg hj]
  have hvs : updv v 15 (ptr w.heap.size) 15 = ptr w.heap.size := by rw [updv, if_pos rfl]
  have vo := hv 16 (by decide)
  obtain ⟨e0, e1⟩ := h.p0 hl0
  have hb : Below w.heap.size w (w.alloc (.cells #[.int .i64 0, .slice none 0 0, .int .i64 0, .int .i64 0, .slice none 0 0, .int .i64 0, .int .i64 0] 60)) := (Below.refl _ _).alloc (Nat.le_refl _) _
  have hz : (w.alloc (.cells #[.int .i64 0, .slice none 0 0, .int .i64 0, .int .i64 0, .slice none 0 0, .int .i64 0, .int .i64 0] 60)).heap.size = w.heap.size + 1 := by simp
  have hk : ∀ r, KeptE K (v 15) (v 16) w r → KeptE K (updv v 15 (ptr w.heap.size) 15) (updv v 15 (ptr w.heap.size) 16) (w.alloc (.cells #[.int .i64 0, .slice none 0 0, .int .i64 0, .int .i64 0, .slice none 0 0, .int .i64 0, .int .i64 0] 60)) r := fun r hr => by
    rw [hvs, vo]
    rw [e0] at hr
    exact hr.allocA _
  refine ⟨by rw [Array.size_setIfInBounds]; exact h.size, h.gr.trans (grown_of_below hb (some K)), ?_, fun j hj hl => ?_, fun hl => ?_, fun hl => ?_, fun hl => ?_, fun hl => ?_, fun h1 h2 => ?_⟩
  · obtain ⟨p, hc⟩ := h.co
    exact ⟨p, hc.belowC hb⟩
  · rw [g j (by omega)] at hl
    rw [hv (22 + j) (by omega)]
    exact (h.f j hj hl).mono hk hj
  · rw [gt] at hl
    cases hl
  · rw [g 13 (by decide)] at hl
    rw [vo, g 15 (by decide)]
    exact h.q0 hl
  · rw [hvs, vo, g 14 (by decide), e1]
    exact ⟨w.heap.size, rfl, h.gr.size, by omega, fun _ => heap_alloc_new w _, fun hf => by cases hf⟩
  · rw [g 13 (by decide)] at hl
    have hq := h.q hl
    have h2 := BtB.kept hq none (grown_of_below hb none) (fun _ _ _ _ => by simp) hk
    rw [hvs, vo] at h2 ⊢
    rw [g 15 (by decide)]
    exact h2
  · rw [g 13 (by decide)] at h2
    obtain ⟨Q, eQ, _, hQ, _⟩ := h.q h2
    rw [hvs, vo, eQ]
    exact ptr_ne (by omega)
theorem BtJ.stA {K D : Nat} {l : List Nat} {W5 : World} {S : Value} {wh nn mm : Int} {x : SchemaD} {t : TableD} {listed : Array Bool} {w w' : World} {v : Nat → Value} (h : BtJ K D l W5 S wh nn mm x t listed w v) (hKW : K < W5.heap.size) (hD : l ≠ [] → D < W5.heap.size) (hl0 : listed.getD 12 false = true) {P : Nat} (hP : v 15 = ptr P) (hPW : W5.heap.size ≤ P) (hg : w.grownBy w' (some P)) {r : EntR} (hb : w'.heap[P]? = some (.cells (ins7 r nn) 60 (0, 0))) (hf : EntFit x t r.e) (hr : KeptE K (v 15) (v 16) w r) : BtJ K D l W5 S wh nn mm x t (listed.setIfInBounds 14 true) w' v := by
  have g : ∀ j, j ≠ 14 → (listed.setIfInBounds 14 true).getD j false = listed.getD j false := fun j hj => by rw [getD_setN (by rw [h.size]; omega), if_neg (Ne.symm hj)]
  have gt : (listed.setIfInBounds 14 true).getD 14 false = true := by rw [getD_setN (by rw [h.size]; omega), if_pos rfl]
  have hk : ∀ r, KeptE K (v 15) (v 16) w r → KeptE K (v 15) (v 16) w' r := fun r hr => by
    rw [hP] at hr ⊢
    exact hr.storeA hg
  refine ⟨by rw [Array.size_setIfInBounds]; exact h.size, h.gr.andThen hg fun j hj => .inl (by injection hj with hj; omega), ?_, fun j hj hl => ?_, fun hl => ?_, fun hl => ?_, fun hl => ?_, fun hl => ?_, fun h1 h2 => ?_⟩
  · obtain ⟨p, hc⟩ := h.co
    exact ⟨p, hc.kept hg (fun e => by injection e with e; omega) (fun h2 e => by have := hD h2; injection e with e; omega)⟩
  · rw [g j (by omega)] at hl
    exact (h.f j hj hl).mono hk hj
  · rw [g 12 (by decide)] at hl
    rw [hl0] at hl
    cases hl
  · rw [g 13 (by decide)] at hl
    rw [g 15 (by decide)]
    exact h.q0 hl
  · rw [gt]
    obtain ⟨P', eP, _, hlt, _⟩ := h.p hl0
    obtain rfl : P = P' := by
      rcases Nat.lt_or_ge 0 1 with _ | h
      · exact Decidable.byContradiction fun hne => ptr_ne hne (hP.symm.trans eP)
      · omega
    exact ⟨P, hP, hPW, Nat.lt_of_lt_of_le hlt hg.size, (fun hf => by cases hf), fun _ => ⟨r, hb, hf, hk r hr⟩⟩
  · rw [g 13 (by decide)] at hl
    rw [g 15 (by decide)]
    refine (h.q hl).kept _ hg (fun Q eQ _ _ e => ?_) hk
    injection e with e
    subst e
    exact h.ne hl0 hl (hP.trans eQ.symm)
  · rw [g 12 (by decide)] at h1
    rw [g 13 (by decide)] at h2
    exact h.ne h1 h2
theorem BtJ.alB {K D : Nat} {l : List Nat} {W5 : World} {S : Value} {wh nn mm : Int} {x : SchemaD} {t : TableD} {listed : Array Bool} {w : World} {v : Nat → Value} (h : BtJ K D l W5 S wh nn mm x t listed w v) (hl0 : listed.getD 13 false = false) : BtJ K D l W5 S wh nn mm x t (listed.setIfInBounds 13 true) (w.alloc (.cells #[.int .i64 0, .slice none 0 0, .int .i64 0, .int .i64 0, .slice none 0 0, .int .i64 0, .int .i64 0] 60)) (updv v 16 (ptr w.heap.size)) := by
  have g : ∀ j, j ≠ 13 → (listed.setIfInBounds 13 true).getD j false = listed.getD j false := fun j hj => by rw [getD_setN (by rw [h.size]; omega), if_neg (Ne.symm hj)]
  have gt : (listed.setIfInBounds 13 true).getD 13 false = true := by rw [getD_setN (by rw [h.size]; omega), if_pos rfl]
  have hv : ∀ j, j ≠ 16 → updv v 16 (ptr w.heap.size) j = v j := fun j hj => by rw [updv, if_neg hj]
  have hvs : updv v 16 (ptr w.heap.size) 16 = ptr w.heap.size := by rw [updv, if_pos rfl]
  have vo := hv 15 (by decide)
  obtain ⟨e0, e1⟩ := h.q0 hl0
  have hb : Below w.heap.size w (w.alloc (.cells #[.int .i64 0, .slice none 0 0, .int .i64 0, .int .i64 0, .slice none 0 0, .int .i64 0, .int .i64 0] 60)) := (Below.refl _ _).alloc (Nat.le_refl _) _
  have hz : (w.alloc (.cells #[.int .i64 0, .slice none 0 0, .int .i64 0, .int .i64 0, .slice none 0 0, .int .i64 0, .int .i64 0] 60)).heap.size = w.heap.size + 1 := by simp
  have hk : ∀ r, KeptE K (v 15) (v 16) w r → KeptE K (updv v 16 (ptr w.heap.size) 15) (updv v 16 (ptr w.heap.size) 16) (w.alloc (.cells #[.int .i64 0, .slice none 0 0, .int .i64 0, .int .i64 0, .slice none 0 0, .int .i64 0, .int .i64 0] 60)) r := fun r hr => by
    rw [hvs, vo]
    rw [e0] at hr
    exact hr.allocB _
  refine ⟨by rw [Array.size_setIfInBounds]; exact h.size, h.gr.trans (grown_of_below hb (some K)), ?_, fun j hj hl => ?_, fun hl => ?_, fun hl => ?_, fun hl => ?_, fun hl => ?_, fun h1 h2 => ?_⟩
  · obtain ⟨p, hc⟩ := h.co
    exact ⟨p, hc.belowC hb⟩
  · rw [g j (by omega)] at hl
    rw [hv (22 + j) (by omega)]
    exact (h.f j hj hl).mono hk hj
  · rw [g 12 (by decide)] at hl
    rw [vo, g 14 (by decide)]
    exact h.p0 hl
  · rw [gt] at hl
    cases hl
  · rw [g 12 (by decide)] at hl
    have hq := h.p hl
    have h2 := BtB.kept hq none (grown_of_below hb none) (fun _ _ _ _ => by simp) hk
    rw [hvs, vo] at h2 ⊢
    rw [g 14 (by decide)]
    exact h2
  · rw [hvs, vo, g 15 (by decide), e1]
    exact ⟨w.heap.size, rfl, h.gr.size, by omega, fun _ => heap_alloc_new w _, fun hf => by cases hf⟩
  · rw [g 12 (by decide)] at h1
    obtain ⟨Q, eQ, _, hQ, _⟩ := h.p h1
    rw [hvs, vo, eQ]
    exact ptr_ne (by omega)
theorem BtJ.stB {K D : Nat} {l : List Nat} {W5 : World} {S : Value} {wh nn mm : Int} {x : SchemaD} {t : TableD} {listed : Array Bool} {w w' : World} {v : Nat → Value} (h : BtJ K D l W5 S wh nn mm x t listed w v) (hKW : K < W5.heap.size) (hD : l ≠ [] → D < W5.heap.size) (hl0 : listed.getD 13 false = true) {P : Nat} (hP : v 16 = ptr P) (hPW : W5.heap.size ≤ P) (hg : w.grownBy w' (some P)) {r : EntR} (hb : w'.heap[P]? = some (.cells (ins7 r mm) 60 (0, 0))) (hf : EntFit x t r.e) (hr : KeptE K (v 15) (v 16) w r) : BtJ K D l W5 S wh nn mm x t (listed.setIfInBounds 15 true) w' v := by
  have g : ∀ j, j ≠ 15 → (listed.setIfInBounds 15 true).getD j false = listed.getD j false := fun j hj => by rw [getD_setN (by rw [h.size]; omega), if_neg (Ne.symm hj)]
  have gt : (listed.setIfInBounds 15 true).getD 15 false = true := by rw [getD_setN (by rw [h.size]; omega), if_pos rfl]
  have hk : ∀ r, KeptE K (v 15) (v 16) w r → KeptE K (v 15) (v 16) w' r := fun r hr => by
    rw [hP] at hr ⊢
    exact hr.storeB hg
  refine ⟨by rw [Array.size_setIfInBounds]; exact h.size, h.gr.andThen hg fun j hj => .inl (by injection hj with hj; omega), ?_, fun j hj hl => ?_, fun hl => ?_, fun hl => ?_, fun hl => ?_, fun hl => ?_, fun h1 h2 => ?_⟩
  · obtain ⟨p, hc⟩ := h.co
    exact ⟨p, hc.kept hg (fun e => by injection e with e; omega) (fun h2 e => by have := hD h2; injection e with e; omega)⟩
  · rw [g j (by omega)] at hl
    exact (h.f j hj hl).mono hk hj
  · rw [g 12 (by decide)] at hl
    rw [g 14 (by decide)]
    exact h.p0 hl
  · rw [g 13 (by decide)] at hl
    rw [hl0] at hl
    cases hl
  · rw [g 12 (by decide)] at hl
    rw [g 14 (by decide)]
    refine (h.p hl).kept _ hg (fun Q eQ _ _ e => ?_) hk
    injection e with e
    subst e
    exact h.ne hl hl0 (eQ.trans hP.symm)
  · rw [gt]
    obtain ⟨P', eP, _, hlt, _⟩ := h.q hl0
    obtain rfl : P = P' := by
      rcases Nat.lt_or_ge 0 1 with _ | h
      · exact Decidable.byContradiction fun hne => ptr_ne hne (hP.symm.trans eP)
      · omega
    exact ⟨P, hP, hPW, Nat.lt_of_lt_of_le hlt hg.size, (fun hf => by cases hf), fun _ => ⟨r, hb, hf, hk r hr⟩⟩
  · rw [g 12 (by decide)] at h1
    rw [g 13 (by decide)] at h2
    exact h.ne h1 h2
end
/- EntryBeats: its walk. -/
section
open Go.RowKit

theorem modI_natB (x : Int) (n : Nat) (h1 : 1 ≤ n) : ∃ r : Nat, r < n ∧ modI x n = (r : Int) := by
  obtain ⟨a, b⟩ := modI_b x n h1
  exact ⟨(modI x n).toNat, by omega, by omega⟩
def slBt : List Nat := [22, 23, 24, 25, 26, 27, 28, 29, 30, 31, 32, 33, 15, 16]
theorem getD_repl (k i : Nat) : (Array.replicate k false).getD i false = false := by
  rw [Array.getD_eq_getD_getElem?, Array.getElem?_replicate]
  split <;> rfl
theorem ready_allM {md : Region.Mode} {ops : Array Oper} {listed : Array Bool} (hchk : (List.range ops.size).all (fun i => ((ops[i]?).map fun o => o.after.all fun e => !Region.binds md e || decide (e.on < i)).getD true) = true)
    (hls : listed.size = ops.size) (hr : Region.ready md ops listed = []) : ∀ i, i < ops.size → listed.getD i false = true := by
  intro i
  induction i using Nat.strongRecOn with
  | ind i ih =>
    intro hi
    cases hl : listed.getD i true with
    | true =>
      rw [Array.getD_eq_getD_getElem?] at hl ⊢
      rw [Array.getElem?_eq_getElem (by omega)] at hl ⊢
      exact hl
    | false =>
      exfalso
      have hmem : i ∈ Region.ready md ops listed := by
        unfold Region.ready
        refine List.mem_filter.2 ⟨List.mem_range.2 hi, ?_⟩
        rw [Bool.and_eq_true]
        refine ⟨by rw [hl]; rfl, ?_⟩
        rw [Array.getElem?_eq_getElem hi]
        simp only [Option.map_some, Option.getD_some, Array.all_eq_true']
        intro e he
        have h1 := List.all_eq_true.1 hchk i (List.mem_range.2 hi)
        rw [Array.getElem?_eq_getElem hi] at h1
        simp only [Option.map_some, Option.getD_some, Array.all_eq_true'] at h1
        have h2 := h1 e he
        cases hb : Region.binds md e
        · simp
        · rw [hb] at h2
          have h3 : e.on < i := by simpa using h2
          rw [ih e.on h3 (by omega)]
          simp
      rw [hr] at hmem
      cases hmem
theorem SchM.up {w : World} {B B2 : Nat} {s0 s1 s2 s3 s4 s5 s6 s7 : Value} {x : SchemaD} (h : SchM w B s0 s1 s2 s3 s4 s5 s6 s7 x) (hB : B ≤ B2) : SchM w B2 s0 s1 s2 s3 s4 s5 s6 s7 x := ⟨h.f.mono mono_field hB, h.h.mono mono_header hB, h.st.mono mono_state hB, h.a.mono mono_action hB, h.t.mono mono_table hB, h.sg.mono mono_stage hB, h.r.mono mono_role hB, h.rf.mono mono_ref hB, h.len⟩
theorem BtJ.farA {K D : Nat} {l : List Nat} {W5 : World} {S : Value} {wh nn mm : Int} {x : SchemaD} {t : TableD} {listed : Array Bool} {w : World} {v : Nat → Value} (h : BtJ K D l W5 S wh nn mm x t listed w v) (k : Nat) (hk : w.heap.size ≤ k) : ptr k ≠ v 15 := by
  cases hl : listed.getD 12 false
  · rw [(h.p0 hl).1]; exact ptr_undef k
  · obtain ⟨P, e, _, hP, _⟩ := h.p hl
    rw [e]; exact ptr_ne (by omega)
theorem BtJ.farB {K D : Nat} {l : List Nat} {W5 : World} {S : Value} {wh nn mm : Int} {x : SchemaD} {t : TableD} {listed : Array Bool} {w : World} {v : Nat → Value} (h : BtJ K D l W5 S wh nn mm x t listed w v) (k : Nat) (hk : w.heap.size ≤ k) : ptr k ≠ v 16 := by
  cases hl : listed.getD 13 false
  · rw [(h.q0 hl).1]; exact ptr_undef k
  · obtain ⟨P, e, _, hP, _⟩ := h.q hl
    rw [e]; exact ptr_ne (by omega)
theorem beats_flip {ts : List TableD} {a b : EntryD} {n m : Int} (h : n ≠ m) : beatsE ts b a m n = !beatsE ts a b n m := by
  unfold beatsE
  by_cases h1 : a.prio = b.prio
  · rw [if_pos h1, if_pos h1.symm]
    by_cases h2 : preE ts a = preE ts b
    · rw [if_pos h2, if_pos h2.symm]
      by_cases h3 : m < n
      · rw [decide_eq_true h3, decide_eq_false (by omega)]; rfl
      · rw [decide_eq_false h3, decide_eq_true (by omega)]; rfl
    · rw [if_neg h2, if_neg (Ne.symm h2)]
      by_cases h3 : preE ts b < preE ts a
      · rw [decide_eq_true h3, decide_eq_false (by omega)]; rfl
      · rw [decide_eq_false h3, decide_eq_true (by omega)]; rfl
  · rw [if_neg h1, if_neg (Ne.symm h1)]
    by_cases h3 : b.prio < a.prio
    · rw [decide_eq_true h3, decide_eq_false (by omega)]; rfl
    · rw [decide_eq_false h3, decide_eq_true (by omega)]; rfl
theorem beats_self {ts : List TableD} {a : EntryD} {n : Int} : beatsE ts a a n n = false := by
  unfold beatsE
  rw [if_pos rfl, if_pos rfl]
  exact decide_eq_false (by omega)
set_option maxRecDepth 100000 in
set_option maxHeartbeats 2000000 in
theorem beats_any (w : World) (Ac : Option Addr) (Dc nc cc : Nat) (lc : List Nat) (hrc : ReadsL w Dc Ac lc) (hdc : lc ≠ [] → Dc < w.heap.size) (hlc : lc.length = nc) (hcc : nc ≤ cc) (hmc : cc ≤ maxLen) (hsc : Small lc)
    (Am : Option Addr) (Dm nm cm : Nat) (lm : List Nat) (hrm : ReadsL w Dm Am lm) (hdm : lm ≠ [] → Dm < w.heap.size) (hlm : lm.length = nm) (hcm : nm ≤ cm) (hmm : cm ≤ maxLen) (hsm : Small lm)
    (which n m : Int) (raw : EntryD) (Aq : Option Addr) (nq cq : Nat) (hraw : RowV 8 MatchV w.heap.size w (.slice Aq nq cq) raw.ms) (Au : Option Addr) (nu cu : Nat) (rn ro : Int) : Calls Try.prog 4 #[.slice Ac nc cc, .slice Am nm cm, .int .i64 which, .int .i64 n, .int .i64 m, .agg #[.int .i64 raw.table, .slice Aq nq cq, .int .i64 raw.prio, .int .i64 raw.action, .slice Au nu cu, .int .i64 rn, .int .i64 ro]] w (RetX (.bool true) w) := by
  have HRAW := Lib.hid hraw
  have HDMW := Lib.hid hdm
  clear hraw
  obtain ⟨W0, hW0⟩ : ∃ W, W = (w.alloc (.cells #[.int .i64 raw.table, .slice Aq nq cq, .int .i64 raw.prio, .int .i64 raw.action, .slice Au nu cu, .int .i64 rn, .int .i64 ro] 60)) := ⟨_, rfl⟩
  have hB0 : Below w.heap.size w W0 := by rw [hW0]; exact ((Below.refl w.heap.size w).alloc (by simp <;> omega) _)
  have hz0 : W0.heap.size = w.heap.size + 1 := by rw [hW0]; simp
  have b0_0 : W0.heap[w.heap.size]? = some (.cells #[.int .i64 raw.table, .slice Aq nq cq, .int .i64 raw.prio, .int .i64 raw.action, .slice Au nu cu, .int .i64 rn, .int .i64 ro] 60 (0, 0)) := by
    rw [hW0]
    exact heap_alloc_new _ _
  have BP0_0 := Lib.hid b0_0
  have HB0 := Lib.hid hB0
  have HW0 := Lib.hid hW0
  have KN0 := cs_newL 120 (by decide) Ac Dc nc cc lc W0 (hrc.kept' (grown_of_below hB0 none) (fun _ => by simp)) (fun h => Nat.lt_of_lt_of_le (hdc h) hB0.size) hlc hcc hmc hsc
  rw [show ((120 : Nat) : Int) = 120 from rfl] at KN0
  have KN := Lib.hid KN0
  clear KN0
  have HRM := Lib.hid hrm
  have HDM := Lib.hid hdm
  have HLM := Lib.hid hlm
  have HSM := Lib.hid hsm
  have HDC := Lib.hid hdc
  clear hB0 hW0 hrc hdc hlc hcc hmc hsc hrm hdm hlm hsm b0_0
  go_enter Try.func4, Try.ntmps4
  go_upto_region 1 with fail
  rw [← HW0.out]
  go_wp2_with fail
  with_reducible refine KN.out.mono ?_
  rintro en w2 ⟨rfl, hb2, hl2, hc2⟩
  rw [hz0] at hl2 hc2
  have HB2 := Lib.hid (HB0.out.trans (hb2.mono HB0.out.size))
  have HC2 := Lib.hid hc2
  have hz2 := hb2.size
  have BP2_0 := Lib.hid ((hb2.block (w.heap.size) (by omega)).trans BP0_0.out)
  clear hb2 hc2 KN
  go_wp2_with fail
  with_reducible refine (schema_any HC2.out).mono ?_
  rintro en w3 ⟨v0, v1, v2, v3, v4, v5, v6, v7, x, rfl, ⟨hok, -⟩, hel, hg3, p3, -⟩
  have hM := schM_of hok (hel w3 w3.heap.size (.refl (Nat.le_refl _)) (Nat.le_refl _))
  obtain ⟨A0, n0, c0, rfl, _⟩ := hM.f.parts
  obtain ⟨A1, n1, c1, rfl, _⟩ := hM.h.parts
  obtain ⟨A2, n2, c2, rfl, _⟩ := hM.st.parts
  obtain ⟨A3, n3, c3, rfl, _⟩ := hM.a.parts
  obtain ⟨A4, n4, c4, rfl, _⟩ := hM.t.parts
  obtain ⟨A5, n5, c5, rfl, _⟩ := hM.sg.parts
  obtain ⟨A6, n6, c6, rfl, _⟩ := hM.r.parts
  obtain ⟨A7, n7, c7, rfl, _⟩ := hM.rf.parts
  have hz3 := hg3.size
  have BP3_0 := Lib.hid ((hg3.block (w.heap.size) (by omega) (fun e => by injection e with e; omega)).trans BP2_0.out)
  have HB3 := Lib.hid (HB2.out.trans (below_grownK hg3 (B := w.heap.size) (by omega) (by omega)))
  have KN20 := cs_newL 40 (by decide) Am Dm nm cm lm w3 ((HRM.out.kept' (grown_of_below HB2.out none) (fun _ => by simp)).kept' hg3 (fun h e => by have := HDM.out h; injection e with e; omega)) (fun h => Nat.lt_of_lt_of_le (HDM.out h) HB3.out.size) HLM.out hcm hmm HSM.out
  rw [show ((40 : Nat) : Int) = 40 from rfl] at KN20
  have KN2 := Lib.hid KN20
  clear KN20
  have HOK := Lib.hid hok
  have HM3 := Lib.hid hM
  clear hM hok hel hg3 HC2
  go_wp2_with fail
  with_reducible refine KN2.out.mono ?_
  rintro en w4 ⟨rfl, hb4, hl4, hc4⟩
  have hz4 := hb4.size
  have BP4_0 := Lib.hid ((hb4.block (w.heap.size) (by omega)).trans BP3_0.out)
  obtain ⟨W5, hW5⟩ : ∃ W, W = w4.alloc (.cells #[.slice A0 n0 c0, .slice A1 n1 c1, .slice A2 n2 c2, .slice A3 n3 c3, .slice A4 n4 c4, .slice A5 n5 c5, .slice A6 n6 c6, .slice A7 n7 c7, .int .i64 x.maxBatch, .int .i64 x.budget] 45) := ⟨_, rfl⟩
  have hb5 : Below w4.heap.size w4 W5 := by rw [hW5]; exact (Below.refl _ _).alloc (Nat.le_refl _) _
  have hz5 : W5.heap.size = w4.heap.size + 1 := by rw [hW5]; simp
  have BS5 : Hid (W5.heap[w4.heap.size]? = some (.cells #[.slice A0 n0 c0, .slice A1 n1 c1, .slice A2 n2 c2, .slice A3 n3 c3, .slice A4 n4 c4, .slice A5 n5 c5, .slice A6 n6 c6, .slice A7 n7 c7, .int .i64 x.maxBatch, .int .i64 x.budget] 45 (0, 0))) := Lib.hid (by rw [hW5]; exact heap_alloc_new _ _)
  have BP5_0 := Lib.hid ((hb5.block (w.heap.size) (by omega)).trans BP4_0.out)
  have hb45 := hb4.trans (hb5.mono hz4)
  have HB5 := Lib.hid (HB3.out.trans (hb45.mono HB3.out.size))
  have HM5 := Lib.hid (HM3.out.below hb45)
  have HC5 := Lib.hid (hc4.belowC hb5)
  have HW5 := Lib.hid hW5
  have hzw : w.heap.size + 1 ≤ w3.heap.size := by omega
  clear hb4 hb5 hb45 hc4 hW5 KN2 HM3 HRM HDM HLM HSM HDC HB0 HB2 HB3 hl2 hz2 hz3 hz0 HW0 BP0_0 BP2_0 BP3_0 BP4_0
  go_upto_region 2 with fail
  rw [← HW5.out]
  obtain ⟨r, hr4, hwh⟩ := modI_natB which 4 (by decide)
  have hxl := (tables_keys HOK.out.tables).2.1
  obtain ⟨t, ht⟩ : ∃ t, x.tables[r]? = some t := ⟨_, List.getElem?_eq_getElem (by omega)⟩
  have HDM5 : Hid (lm.take 40 ≠ [] → Dm < W5.heap.size) := Lib.hid HC5.out.dlt
  have hKW : w3.heap.size < W5.heap.size := by omega
  have KE : Hid (∀ (W : World) (_ : W5.grownBy W (some w3.heap.size)) (p : Nat) (_ : CoAt w3.heap.size Dm (lm.take 40) p W), Calls Try.prog 14 #[.pointer (some ⟨w3.heap.size, 0, none⟩), .agg #[.slice A0 n0 c0, .slice A1 n1 c1, .slice A2 n2 c2, .slice A3 n3 c3, .slice A4 n4 c4, .slice A5 n5 c5, .slice A6 n6 c6, .slice A7 n7 c7, .int .i64 x.maxBatch, .int .i64 x.budget], .int .i64 which] W (RetEnt w3.heap.size Dm (lm.take 40) x t W)) := Lib.hid fun W hg p hc =>
    cs_entry W w3.heap.size w3.heap.size Dm p (lm.take 40) (HM5.out.below (below_grownK hg (Nat.le_refl _) (by omega))) (gen_ok HOK.out) (by have := hg.size; omega) (Nat.le_refl _) (.int .i64 x.maxBatch) (.int .i64 x.budget) hc which r (by rw [hxl]; exact hwh) t ht
  clear ht hwh hxl
  go_cut [15, 16] from 22 to 33 (fun v15 v16 wx => ∃ (P Q : Nat) (r s : EntR), v15 = .pointer (some ⟨P, 0, none⟩) ∧ v16 = .pointer (some ⟨Q, 0, none⟩) ∧ W5.heap.size ≤ P ∧ W5.heap.size ≤ Q ∧ P < wx.heap.size ∧ Q < wx.heap.size ∧ wx.heap[P]? = some (.cells (ins7 r n) 60 (0, 0)) ∧ wx.heap[Q]? = some (.cells (ins7 s m) 60 (0, 0)) ∧ W5.grownBy wx (some w3.heap.size) ∧ RowV 8 MatchV wx.heap.size wx (.slice r.a r.n r.c) r.e.ms ∧ RowV 8 MatchV wx.heap.size wx (.slice s.a s.n s.c) s.e.ms)
  case first =>
    refine wp_region_S slBt (BtJ w3.heap.size Dm (lm.take 40) W5 (.agg #[.slice A0 n0 c0, .slice A1 n1 c1, .slice A2 n2 c2, .slice A3 n3 c3, .slice A4 n4 c4, .slice A5 n5 c5, .slice A6 n6 c6, .slice A7 n7 c7, .int .i64 x.maxBatch, .int .i64 x.budget]) which n m x t) (by kernel_rfl) ?_ ?_ ?_ ?_
    · simp [setS, slBt]
    · exact ⟨by simp, grown_of_below (Below.drew (Below.refl _ _)) (some w3.heap.size), ⟨0, HC5.out.drew⟩, fun i _ h => (by rw [getD_repl] at h; cases h), fun _ => ⟨rfl, getD_repl _ _⟩, fun _ => ⟨rfl, getD_repl _ _⟩, fun h => (by rw [getD_repl] at h; cases h), fun h => (by rw [getD_repl] at h; cases h), fun h => (by rw [getD_repl] at h; cases h)⟩
    · intro listed w1 v i hJ hrd
      obtain ⟨hlt2, hun⟩ := ready_subN hrd
      have hlt3 : i < 16 := hlt2
      clear hlt2
      match i, hlt3 with
      | 0, _ =>
        refine wpOp_step rfl (fun K' hK => ?_)
        simp only [setS, slBt, List.setIfInBounds_toArray, List.set_cons_succ, List.set_cons_zero]
        have HH := Lib.hid hK
        clear hK hrd
        go_simp
        refine HH.out _ _ ⟨updv v 22 (.pointer (some ⟨w3.heap.size, 0, none⟩)), by simp [setS, slBt, updv], hJ.val hKW (i := 0) (by decide) (grown_of_below (Below.refl _ _) (some w3.heap.size)) hJ.co rfl⟩
      | 2, _ =>
        refine wpOp_step rfl (fun K' hK => ?_)
        simp only [setS, slBt, List.setIfInBounds_toArray, List.set_cons_succ, List.set_cons_zero]
        have HH := Lib.hid hK
        clear hK hrd
        go_simp
        refine HH.out _ _ ⟨updv v 24 (.int .i64 which), by simp [setS, slBt, updv], hJ.val hKW (i := 2) (by decide) (grown_of_below (Below.refl _ _) (some w3.heap.size)) hJ.co rfl⟩
      | 4, _ =>
        refine wpOp_step rfl (fun K' hK => ?_)
        simp only [setS, slBt, List.setIfInBounds_toArray, List.set_cons_succ, List.set_cons_zero]
        have HH := Lib.hid hK
        clear hK hrd
        go_simp
        refine HH.out _ _ ⟨updv v 26 (.int .i64 n), by simp [setS, slBt, updv], hJ.val hKW (i := 4) (by decide) (grown_of_below (Below.refl _ _) (some w3.heap.size)) hJ.co rfl⟩
      | 6, _ =>
        refine wpOp_step rfl (fun K' hK => ?_)
        simp only [setS, slBt, List.setIfInBounds_toArray, List.set_cons_succ, List.set_cons_zero]
        have HH := Lib.hid hK
        clear hK hrd
        go_simp
        refine HH.out _ _ ⟨updv v 28 (.pointer (some ⟨w3.heap.size, 0, none⟩)), by simp [setS, slBt, updv], hJ.val hKW (i := 6) (by decide) (grown_of_below (Below.refl _ _) (some w3.heap.size)) hJ.co rfl⟩
      | 8, _ =>
        refine wpOp_step rfl (fun K' hK => ?_)
        simp only [setS, slBt, List.setIfInBounds_toArray, List.set_cons_succ, List.set_cons_zero]
        have HH := Lib.hid hK
        clear hK hrd
        go_simp
        refine HH.out _ _ ⟨updv v 30 (.int .i64 which), by simp [setS, slBt, updv], hJ.val hKW (i := 8) (by decide) (grown_of_below (Below.refl _ _) (some w3.heap.size)) hJ.co rfl⟩
      | 10, _ =>
        refine wpOp_step rfl (fun K' hK => ?_)
        simp only [setS, slBt, List.setIfInBounds_toArray, List.set_cons_succ, List.set_cons_zero]
        have HH := Lib.hid hK
        clear hK hrd
        go_simp
        refine HH.out _ _ ⟨updv v 32 (.int .i64 m), by simp [setS, slBt, updv], hJ.val hKW (i := 10) (by decide) (grown_of_below (Below.refl _ _) (some w3.heap.size)) hJ.co rfl⟩
      | 1, _ =>
        have bs1 := (hJ.gr.block w4.heap.size (by omega) (fun e => by injection e with e; omega)).trans BS5.out
        have s0 : w1.cell? ⟨w4.heap.size, 0, none⟩ = some (.slice A0 n0 c0) := blk_cell bs1 0 _ rfl
        have s1 : w1.cell? ⟨w4.heap.size, 1, none⟩ = some (.slice A1 n1 c1) := blk_cell bs1 1 _ rfl
        have s2 : w1.cell? ⟨w4.heap.size, 2, none⟩ = some (.slice A2 n2 c2) := blk_cell bs1 2 _ rfl
        have s3 : w1.cell? ⟨w4.heap.size, 3, none⟩ = some (.slice A3 n3 c3) := blk_cell bs1 3 _ rfl
        have s4 : w1.cell? ⟨w4.heap.size, 4, none⟩ = some (.slice A4 n4 c4) := blk_cell bs1 4 _ rfl
        have s5 : w1.cell? ⟨w4.heap.size, 5, none⟩ = some (.slice A5 n5 c5) := blk_cell bs1 5 _ rfl
        have s6 : w1.cell? ⟨w4.heap.size, 6, none⟩ = some (.slice A6 n6 c6) := blk_cell bs1 6 _ rfl
        have s7 : w1.cell? ⟨w4.heap.size, 7, none⟩ = some (.slice A7 n7 c7) := blk_cell bs1 7 _ rfl
        have s8 : w1.cell? ⟨w4.heap.size, 8, none⟩ = some (.int .i64 x.maxBatch) := blk_cell bs1 8 _ rfl
        have s9 : w1.cell? ⟨w4.heap.size, 9, none⟩ = some (.int .i64 x.budget) := blk_cell bs1 9 _ rfl
        refine wpOp_step rfl (fun K' hK => ?_)
        simp only [setS, slBt, List.setIfInBounds_toArray, List.set_cons_succ, List.set_cons_zero]
        have HH := Lib.hid hK
        clear bs1
        clear hK hrd
        go_simp
        refine HH.out _ _ ⟨updv v 23 (.agg #[.slice A0 n0 c0, .slice A1 n1 c1, .slice A2 n2 c2, .slice A3 n3 c3, .slice A4 n4 c4, .slice A5 n5 c5, .slice A6 n6 c6, .slice A7 n7 c7, .int .i64 x.maxBatch, .int .i64 x.budget]), by simp [setS, slBt, updv], hJ.val hKW (i := 1) (by decide) (grown_of_below (Below.refl _ _) (some w3.heap.size)) hJ.co rfl⟩
      | 7, _ =>
        have bs1 := (hJ.gr.block w4.heap.size (by omega) (fun e => by injection e with e; omega)).trans BS5.out
        have s0 : w1.cell? ⟨w4.heap.size, 0, none⟩ = some (.slice A0 n0 c0) := blk_cell bs1 0 _ rfl
        have s1 : w1.cell? ⟨w4.heap.size, 1, none⟩ = some (.slice A1 n1 c1) := blk_cell bs1 1 _ rfl
        have s2 : w1.cell? ⟨w4.heap.size, 2, none⟩ = some (.slice A2 n2 c2) := blk_cell bs1 2 _ rfl
        have s3 : w1.cell? ⟨w4.heap.size, 3, none⟩ = some (.slice A3 n3 c3) := blk_cell bs1 3 _ rfl
        have s4 : w1.cell? ⟨w4.heap.size, 4, none⟩ = some (.slice A4 n4 c4) := blk_cell bs1 4 _ rfl
        have s5 : w1.cell? ⟨w4.heap.size, 5, none⟩ = some (.slice A5 n5 c5) := blk_cell bs1 5 _ rfl
        have s6 : w1.cell? ⟨w4.heap.size, 6, none⟩ = some (.slice A6 n6 c6) := blk_cell bs1 6 _ rfl
        have s7 : w1.cell? ⟨w4.heap.size, 7, none⟩ = some (.slice A7 n7 c7) := blk_cell bs1 7 _ rfl
        have s8 : w1.cell? ⟨w4.heap.size, 8, none⟩ = some (.int .i64 x.maxBatch) := blk_cell bs1 8 _ rfl
        have s9 : w1.cell? ⟨w4.heap.size, 9, none⟩ = some (.int .i64 x.budget) := blk_cell bs1 9 _ rfl
        refine wpOp_step rfl (fun K' hK => ?_)
        simp only [setS, slBt, List.setIfInBounds_toArray, List.set_cons_succ, List.set_cons_zero]
        have HH := Lib.hid hK
        clear bs1
        clear hK hrd
        go_simp
        refine HH.out _ _ ⟨updv v 29 (.agg #[.slice A0 n0 c0, .slice A1 n1 c1, .slice A2 n2 c2, .slice A3 n3 c3, .slice A4 n4 c4, .slice A5 n5 c5, .slice A6 n6 c6, .slice A7 n7 c7, .int .i64 x.maxBatch, .int .i64 x.budget]), by simp [setS, slBt, updv], hJ.val hKW (i := 7) (by decide) (grown_of_below (Below.refl _ _) (some w3.heap.size)) hJ.co rfl⟩
      | 3, _ =>
        have e0 : v 22 = .pointer (some ⟨w3.heap.size, 0, none⟩) := hJ.f 0 (by decide) (ready_depN hrd rfl (e := ⟨0, .data⟩) (by simp) rfl)
        have e1 : v 23 = .agg #[.slice A0 n0 c0, .slice A1 n1 c1, .slice A2 n2 c2, .slice A3 n3 c3, .slice A4 n4 c4, .slice A5 n5 c5, .slice A6 n6 c6, .slice A7 n7 c7, .int .i64 x.maxBatch, .int .i64 x.budget] := hJ.f 1 (by decide) (ready_depN hrd rfl (e := ⟨1, .data⟩) (by simp) rfl)
        have e2 : v 24 = .int .i64 which := hJ.f 2 (by decide) (ready_depN hrd rfl (e := ⟨2, .data⟩) (by simp) rfl)
        refine wpOp_step rfl (fun K' hK => ?_)
        simp only [setS, slBt, List.setIfInBounds_toArray, List.set_cons_succ, List.set_cons_zero]
        have HH := Lib.hid hK
        rw [e0, e1, e2]
        clear hK hrd
        go_simp
        go_at_call 14
        obtain ⟨pc, hc⟩ := hJ.co
        with_reducible refine (KE.out w1 hJ.gr pc hc).mono ?_
        rintro en w2 ⟨va, ua, e, rfl, hfit, hma, hua, hg, p2, hc2⟩
        obtain ⟨A, n', c', rfl, _⟩ := (hma w2 w2.heap.size (.refl (Nat.le_refl _)) (Nat.le_refl _)).parts
        obtain ⟨A2, n2', c2', rfl, _⟩ := (hua w2 w2.heap.size (.refl (Nat.le_refl _)) (Nat.le_refl _)).parts
        have hsz1 := hJ.gr.size
        go_simp
        refine HH.out _ _ ⟨updv v 25 (agg5 ⟨A, n', c', A2, n2', c2', e⟩), by simp [setS, slBt, updv, agg5, e0, e1, e2], hJ.val hKW (i := 3) (by decide) hg ⟨p2, hc2⟩ ⟨⟨A, n', c', A2, n2', c2', e⟩, rfl, hfit, KeptE.new hma hua (by omega) hJ.farA hJ.farB⟩⟩
      | 9, _ =>
        have e0 : v 28 = .pointer (some ⟨w3.heap.size, 0, none⟩) := hJ.f 6 (by decide) (ready_depN hrd rfl (e := ⟨6, .data⟩) (by simp) rfl)
        have e1 : v 29 = .agg #[.slice A0 n0 c0, .slice A1 n1 c1, .slice A2 n2 c2, .slice A3 n3 c3, .slice A4 n4 c4, .slice A5 n5 c5, .slice A6 n6 c6, .slice A7 n7 c7, .int .i64 x.maxBatch, .int .i64 x.budget] := hJ.f 7 (by decide) (ready_depN hrd rfl (e := ⟨7, .data⟩) (by simp) rfl)
        have e2 : v 30 = .int .i64 which := hJ.f 8 (by decide) (ready_depN hrd rfl (e := ⟨8, .data⟩) (by simp) rfl)
        refine wpOp_step rfl (fun K' hK => ?_)
        simp only [setS, slBt, List.setIfInBounds_toArray, List.set_cons_succ, List.set_cons_zero]
        have HH := Lib.hid hK
        rw [e0, e1, e2]
        clear hK hrd
        go_simp
        go_at_call 14
        obtain ⟨pc, hc⟩ := hJ.co
        with_reducible refine (KE.out w1 hJ.gr pc hc).mono ?_
        rintro en w2 ⟨va, ua, e, rfl, hfit, hma, hua, hg, p2, hc2⟩
        obtain ⟨A, n', c', rfl, _⟩ := (hma w2 w2.heap.size (.refl (Nat.le_refl _)) (Nat.le_refl _)).parts
        obtain ⟨A2, n2', c2', rfl, _⟩ := (hua w2 w2.heap.size (.refl (Nat.le_refl _)) (Nat.le_refl _)).parts
        have hsz1 := hJ.gr.size
        go_simp
        refine HH.out _ _ ⟨updv v 31 (agg5 ⟨A, n', c', A2, n2', c2', e⟩), by simp [setS, slBt, updv, agg5, e0, e1, e2], hJ.val hKW (i := 9) (by decide) hg ⟨p2, hc2⟩ ⟨⟨A, n', c', A2, n2', c2', e⟩, rfl, hfit, KeptE.new hma hua (by omega) hJ.farA hJ.farB⟩⟩
      | 5, _ =>
        obtain ⟨r, e0, hf, hk⟩ : ∃ r, v 25 = agg5 r ∧ EntFit x t r.e ∧ KeptE w3.heap.size (v 15) (v 16) w1 r := hJ.f 3 (by decide) (ready_depN hrd rfl (e := ⟨3, .data⟩) (by simp) rfl)
        have e1 : v 26 = .int .i64 n := hJ.f 4 (by decide) (ready_depN hrd rfl (e := ⟨4, .data⟩) (by simp) rfl)
        refine wpOp_step rfl (fun K' hK => ?_)
        simp only [setS, slBt, List.setIfInBounds_toArray, List.set_cons_succ, List.set_cons_zero]
        have HH := Lib.hid hK
        rw [e0, e1]
        unfold agg5
        clear hK hrd
        go_simp
        refine HH.out _ _ ⟨updv v 27 (.agg (ins7 r n)), by simp [setS, slBt, updv, ins7, agg5, e0, e1], hJ.val hKW (i := 5) (by decide) (grown_of_below (Below.refl _ _) (some w3.heap.size)) hJ.co ⟨r, rfl, hf, hk⟩⟩
      | 11, _ =>
        obtain ⟨r, e0, hf, hk⟩ : ∃ r, v 31 = agg5 r ∧ EntFit x t r.e ∧ KeptE w3.heap.size (v 15) (v 16) w1 r := hJ.f 9 (by decide) (ready_depN hrd rfl (e := ⟨9, .data⟩) (by simp) rfl)
        have e1 : v 32 = .int .i64 m := hJ.f 10 (by decide) (ready_depN hrd rfl (e := ⟨10, .data⟩) (by simp) rfl)
        refine wpOp_step rfl (fun K' hK => ?_)
        simp only [setS, slBt, List.setIfInBounds_toArray, List.set_cons_succ, List.set_cons_zero]
        have HH := Lib.hid hK
        rw [e0, e1]
        unfold agg5
        clear hK hrd
        go_simp
        refine HH.out _ _ ⟨updv v 33 (.agg (ins7 r m)), by simp [setS, slBt, updv, ins7, agg5, e0, e1], hJ.val hKW (i := 11) (by decide) (grown_of_below (Below.refl _ _) (some w3.heap.size)) hJ.co ⟨r, rfl, hf, hk⟩⟩
      | 12, _ =>
        have hl0 : listed.getD 12 false = false := unl hJ.size (by decide) hun
        refine wpOp_step rfl (fun K' hK => ?_)
        simp only [setS, slBt, List.setIfInBounds_toArray, List.set_cons_succ, List.set_cons_zero]
        have HH := Lib.hid hK
        clear hK hrd
        go_simp
        refine HH.out _ _ ⟨updv v 15 (ptr w1.heap.size), by simp [setS, slBt, updv, ptr], hJ.alA hl0⟩
      | 13, _ =>
        have hl0 : listed.getD 13 false = false := unl hJ.size (by decide) hun
        refine wpOp_step rfl (fun K' hK => ?_)
        simp only [setS, slBt, List.setIfInBounds_toArray, List.set_cons_succ, List.set_cons_zero]
        have HH := Lib.hid hK
        clear hK hrd
        go_simp
        refine HH.out _ _ ⟨updv v 16 (ptr w1.heap.size), by simp [setS, slBt, updv, ptr], hJ.alB hl0⟩
      | 14, _ =>
        have hl0 : listed.getD 14 false = false := unl hJ.size (by decide) hun
        have hl1 : listed.getD 12 false = true := ready_depN hrd rfl (e := ⟨12, .data⟩) (by simp) rfl
        obtain ⟨P, eP, hPW, hPl, hz, _⟩ := hJ.p hl1
        have hb := hz hl0
        obtain ⟨r, e0, hf, hk⟩ : ∃ r, v 27 = .agg (ins7 r n) ∧ EntFit x t r.e ∧ KeptE w3.heap.size (v 15) (v 16) w1 r := hJ.f 5 (by decide) (ready_depN hrd rfl (e := ⟨5, .data⟩) (by simp) rfl)
        have z0 : w1.cell? ⟨P, 0, none⟩ = some (.int .i64 0) := blk_cell hb 0 _ rfl
        have z1 : w1.cell? ⟨P, 1, none⟩ = some (.slice none 0 0) := blk_cell hb 1 _ rfl
        have z2 : w1.cell? ⟨P, 2, none⟩ = some (.int .i64 0) := blk_cell hb 2 _ rfl
        have z3 : w1.cell? ⟨P, 3, none⟩ = some (.int .i64 0) := blk_cell hb 3 _ rfl
        have z4 : w1.cell? ⟨P, 4, none⟩ = some (.slice none 0 0) := blk_cell hb 4 _ rfl
        have z5 : w1.cell? ⟨P, 5, none⟩ = some (.int .i64 0) := blk_cell hb 5 _ rfl
        have z6 : w1.cell? ⟨P, 6, none⟩ = some (.int .i64 0) := blk_cell hb 6 _ rfl
        have f0 := blk_froz hb 0
        have f1 := blk_froz hb 1
        have f2 := blk_froz hb 2
        have f3 := blk_froz hb 3
        have f4 := blk_froz hb 4
        have f5 := blk_froz hb 5
        have f6 := blk_froz hb 6
        refine wpOp_step rfl (fun K' hK => ?_)
        simp only [setS, slBt, List.setIfInBounds_toArray, List.set_cons_succ, List.set_cons_zero]
        have HH := Lib.hid hK
        rw [eP, e0]
        unfold ptr ins7
        clear hK hrd
        go_simp
        refine HH.out _ _ ⟨v, by simp [setS, slBt, ptr, ins7, eP, e0], hJ.stA hKW HDM5.out hl1 eP hPW (grown_set7 w1 (.int .i64 r.e.table) (.slice r.a r.n r.c) (.int .i64 r.e.prio) (.int .i64 r.e.action) (.slice r.a2 r.n2 r.c2) (.int .i64 n) (.int .i64 0)) (blk_set7 hb (.int .i64 r.e.table) (.slice r.a r.n r.c) (.int .i64 r.e.prio) (.int .i64 r.e.action) (.slice r.a2 r.n2 r.c2) (.int .i64 n) (.int .i64 0)) hf hk⟩
      | 15, _ =>
        have hl0 : listed.getD 15 false = false := unl hJ.size (by decide) hun
        have hl1 : listed.getD 13 false = true := ready_depN hrd rfl (e := ⟨13, .data⟩) (by simp) rfl
        obtain ⟨P, eP, hPW, hPl, hz, _⟩ := hJ.q hl1
        have hb := hz hl0
        obtain ⟨r, e0, hf, hk⟩ : ∃ r, v 33 = .agg (ins7 r m) ∧ EntFit x t r.e ∧ KeptE w3.heap.size (v 15) (v 16) w1 r := hJ.f 11 (by decide) (ready_depN hrd rfl (e := ⟨11, .data⟩) (by simp) rfl)
        have z0 : w1.cell? ⟨P, 0, none⟩ = some (.int .i64 0) := blk_cell hb 0 _ rfl
        have z1 : w1.cell? ⟨P, 1, none⟩ = some (.slice none 0 0) := blk_cell hb 1 _ rfl
        have z2 : w1.cell? ⟨P, 2, none⟩ = some (.int .i64 0) := blk_cell hb 2 _ rfl
        have z3 : w1.cell? ⟨P, 3, none⟩ = some (.int .i64 0) := blk_cell hb 3 _ rfl
        have z4 : w1.cell? ⟨P, 4, none⟩ = some (.slice none 0 0) := blk_cell hb 4 _ rfl
        have z5 : w1.cell? ⟨P, 5, none⟩ = some (.int .i64 0) := blk_cell hb 5 _ rfl
        have z6 : w1.cell? ⟨P, 6, none⟩ = some (.int .i64 0) := blk_cell hb 6 _ rfl
        have f0 := blk_froz hb 0
        have f1 := blk_froz hb 1
        have f2 := blk_froz hb 2
        have f3 := blk_froz hb 3
        have f4 := blk_froz hb 4
        have f5 := blk_froz hb 5
        have f6 := blk_froz hb 6
        refine wpOp_step rfl (fun K' hK => ?_)
        simp only [setS, slBt, List.setIfInBounds_toArray, List.set_cons_succ, List.set_cons_zero]
        have HH := Lib.hid hK
        rw [eP, e0]
        unfold ptr ins7
        clear hK hrd
        go_simp
        refine HH.out _ _ ⟨v, by simp [setS, slBt, ptr, ins7, eP, e0], hJ.stB hKW HDM5.out hl1 eP hPW (grown_set7 w1 (.int .i64 r.e.table) (.slice r.a r.n r.c) (.int .i64 r.e.prio) (.int .i64 r.e.action) (.slice r.a2 r.n2 r.c2) (.int .i64 m) (.int .i64 0)) (blk_set7 hb (.int .i64 r.e.table) (.slice r.a r.n r.c) (.int .i64 r.e.prio) (.int .i64 r.e.action) (.slice r.a2 r.n2 r.c2) (.int .i64 m) (.int .i64 0)) hf hk⟩
      | _ + 16, h => exact absurd h (by omega)
    · intro listed w1 v hJ hr
      have hall := ready_allM (by kernel_rfl) hJ.size hr
      obtain ⟨P, eP, hPW, hPl, _, hPf⟩ := hJ.p (hall 12 (by decide))
      obtain ⟨Q, eQ, hQW, hQl, _, hQf⟩ := hJ.q (hall 13 (by decide))
      obtain ⟨r, hPb, _, hPk⟩ := hPf (hall 14 (by decide))
      obtain ⟨s, hQb, _, hQk⟩ := hQf (hall 15 (by decide))
      have hgr := hJ.gr
      have h1 := (hPk w1 (Nat.le_refl _) (fun _ _ _ _ _ => rfl)).1
      have h2 := (hQk w1 (Nat.le_refl _) (fun _ _ _ _ _ => rfl)).1
      clear hall hr hJ hPf hQf hPk hQk
      simp only [setS, slBt, List.setIfInBounds_toArray, List.set_cons_succ, List.set_cons_zero]
      rw [eP, eQ]
      unfold ptr
      go_wp2_with fail
      go_meet
      exact ⟨P, Q, r, s, rfl, rfl, hPW, hQW, hPl, hQl, hPb, hQb, hgr, h1, h2⟩
  case rest =>
    obtain ⟨P, Q, r, s, rfl, rfl, hPW, hQW, hPl, hQl, hPb, hQb, hgr, hr1, hr2⟩ := hcut
    obtain ⟨W6, hW6⟩ : ∃ z, z = wc := ⟨_, rfl⟩
    subst hW6
    have hzg := hgr.size
    have hB56 : Below w3.heap.size W5 W6 := below_grownK hgr (Nat.le_refl _) (by omega)
    have HB6 := Lib.hid (HB5.out.trans (below_grownK hgr (B := w.heap.size) (by omega) (by omega)))
    have hM6 := (HM5.out.below hB56).up (show w3.heap.size ≤ W6.heap.size by omega)
    have hR6 : RowV 8 MatchV W6.heap.size W6 (.slice Aq nq cq) raw.ms := (HRAW.out.below kept_match HB6.out).up up_match (by omega)
    have BS6 := Lib.hid ((hgr.block w4.heap.size (by omega) (fun e => by injection e with e; omega)).trans BS5.out)
    have BR6 := Lib.hid ((hgr.block w.heap.size (by omega) (fun e => by injection e with e; omega)).trans BP5_0.out)
    have BP6 := Lib.hid hPb
    have BQ6 := Lib.hid hQb
    have hKP : ∀ (a b : EntryD) (X1 X2 : Option Addr) (m1 k1 m2 k2 : Nat) (u1 u2 o1 o2 : Value) (na nb : Int), RowV 8 MatchV W6.heap.size W6 (.slice X1 m1 k1) a.ms → RowV 8 MatchV W6.heap.size W6 (.slice X2 m2 k2) b.ms → ∀ W, Below W6.heap.size W6 W → Calls Try.prog 21 #[.agg #[.slice A0 n0 c0, .slice A1 n1 c1, .slice A2 n2 c2, .slice A3 n3 c3, .slice A4 n4 c4, .slice A5 n5 c5, .slice A6 n6 c6, .slice A7 n7 c7, .int .i64 x.maxBatch, .int .i64 x.budget], .agg #[.int .i64 a.table, .slice X1 m1 k1, .int .i64 a.prio, .int .i64 a.action, u1, .int .i64 na, o1], .agg #[.int .i64 b.table, .slice X2 m2 k2, .int .i64 b.prio, .int .i64 b.action, u2, .int .i64 nb, o2]] W (RetX (.bool (beatsE x.tables a b na nb)) W) :=
      fun a b X1 X2 m1 k1 m2 k2 u1 u2 o1 o2 na nb h1 h2 W hb => g_Beats W W6.heap.size A4 n4 c4 x.tables (hM6.t.below kept_table hb) hb.size _ _ _ _ _ _ _ _ _ a b X1 X2 m1 k1 m2 k2 u1 u2 o1 o2 na nb (h1.below kept_match hb) (h2.below kept_match hb)
    have hKR : ∀ (a b : EntryD) (X1 X2 : Option Addr) (m1 k1 m2 k2 : Nat) (u1 u2 o1 o2 : Value) (na nb : Int), RowV 8 MatchV W6.heap.size W6 (.slice X1 m1 k1) a.ms → RowV 8 MatchV W6.heap.size W6 (.slice X2 m2 k2) b.ms → ∀ W, Below W6.heap.size W6 W → Calls Try.prog 22 #[.agg #[.slice A0 n0 c0, .slice A1 n1 c1, .slice A2 n2 c2, .slice A3 n3 c3, .slice A4 n4 c4, .slice A5 n5 c5, .slice A6 n6 c6, .slice A7 n7 c7, .int .i64 x.maxBatch, .int .i64 x.budget], .agg #[.int .i64 a.table, .slice X1 m1 k1, .int .i64 a.prio, .int .i64 a.action, u1, .int .i64 na, o1], .agg #[.int .i64 b.table, .slice X2 m2 k2, .int .i64 b.prio, .int .i64 b.action, u2, .int .i64 nb, o2]] W (RetX (.bool (beatsE x.tables a b na nb)) W) :=
      fun a b X1 X2 m1 k1 m2 k2 u1 u2 o1 o2 na nb h1 h2 W hb => by
        have hMW := hM6.below hb
        have h1W := h1.below kept_match hb
        have h2W := h2.below kept_match hb
        exact g_rBeats (w := W) (B := W6.heap.size) (x := x) hMW hb.size (.int .i64 x.maxBatch) (.int .i64 x.budget) a b X1 X2 m1 k1 m2 k2 u1 u2 o1 o2 na nb h1W h2W
    have K1p := hKP r.e s.e r.a s.a r.n r.c s.n s.c (.slice r.a2 r.n2 r.c2) (.slice s.a2 s.n2 s.c2) (.int .i64 0) (.int .i64 0) n m hr1 hr2
    have K1r := hKR r.e s.e r.a s.a r.n r.c s.n s.c (.slice r.a2 r.n2 r.c2) (.slice s.a2 s.n2 s.c2) (.int .i64 0) (.int .i64 0) n m hr1 hr2
    have K2p := hKP raw r.e Aq r.a nq cq r.n r.c (.slice Au nu cu) (.slice r.a2 r.n2 r.c2) (.int .i64 ro) (.int .i64 0) rn n hR6 hr1
    have K2r := hKR raw r.e Aq r.a nq cq r.n r.c (.slice Au nu cu) (.slice r.a2 r.n2 r.c2) (.int .i64 ro) (.int .i64 0) rn n hR6 hr1
    have K3p := hKP r.e raw r.a Aq r.n r.c nq cq (.slice r.a2 r.n2 r.c2) (.slice Au nu cu) (.int .i64 0) (.int .i64 ro) n rn hr1 hR6
    have K3r := hKR r.e raw r.a Aq r.n r.c nq cq (.slice r.a2 r.n2 r.c2) (.slice Au nu cu) (.int .i64 0) (.int .i64 ro) n rn hr1 hR6
    have K4 := hKP s.e r.e s.a r.a s.n s.c r.n r.c (.slice s.a2 s.n2 s.c2) (.slice r.a2 r.n2 r.c2) (.int .i64 0) (.int .i64 0) m n hr2 hr1
    have K5 := hKP r.e r.e r.a r.a r.n r.c r.n r.c (.slice r.a2 r.n2 r.c2) (.slice r.a2 r.n2 r.c2) (.int .i64 0) (.int .i64 0) n n hr1 hr1
    have hfl : n ≠ m → beatsE x.tables s.e r.e m n = !beatsE x.tables r.e s.e n m := beats_flip
    rw [beats_self] at K5
    obtain ⟨b1, hb1⟩ : ∃ b, b = beatsE x.tables r.e s.e n m := ⟨_, rfl⟩
    obtain ⟨b2, hb2⟩ : ∃ b, b = beatsE x.tables raw r.e rn n := ⟨_, rfl⟩
    obtain ⟨b3, hb3⟩ : ∃ b, b = beatsE x.tables r.e raw n rn := ⟨_, rfl⟩
    obtain ⟨b4, hb4⟩ : ∃ b, b = beatsE x.tables s.e r.e m n := ⟨_, rfl⟩
    rw [← hb1] at K1p K1r hfl
    rw [← hb2] at K2p K2r
    rw [← hb3] at K3p K3r
    rw [← hb4] at K4 hfl
    have KA := Lib.hid K1p
    have KB := Lib.hid K1r
    have KC := Lib.hid K2p
    have KD := Lib.hid K2r
    have KF := Lib.hid K3p
    have KG := Lib.hid K3r
    have KH := Lib.hid K4
    have KI := Lib.hid K5
    have HFL := Lib.hid hfl
    clear hKP hKR K1p K1r K2p K2r K3p K3r K4 K5 hb1 hb2 hb3 hb4 hfl hM6 hR6 hB56 hPb hQb hgr hr1 hr2 KE HRAW
    have HKS : Hid (∀ w', Below W6.heap.size W6 w' → Below W6.heap.size W6 w' ∧ w'.cell? ⟨w4.heap.size, 0, none⟩ = some (.slice A0 n0 c0) ∧ w'.cell? ⟨w4.heap.size, 1, none⟩ = some (.slice A1 n1 c1) ∧ w'.cell? ⟨w4.heap.size, 2, none⟩ = some (.slice A2 n2 c2) ∧ w'.cell? ⟨w4.heap.size, 3, none⟩ = some (.slice A3 n3 c3) ∧ w'.cell? ⟨w4.heap.size, 4, none⟩ = some (.slice A4 n4 c4) ∧ w'.cell? ⟨w4.heap.size, 5, none⟩ = some (.slice A5 n5 c5) ∧ w'.cell? ⟨w4.heap.size, 6, none⟩ = some (.slice A6 n6 c6) ∧ w'.cell? ⟨w4.heap.size, 7, none⟩ = some (.slice A7 n7 c7) ∧ w'.cell? ⟨w4.heap.size, 8, none⟩ = some (.int .i64 x.maxBatch) ∧ w'.cell? ⟨w4.heap.size, 9, none⟩ = some (.int .i64 x.budget) ∧ w'.cell? ⟨w.heap.size, 0, none⟩ = some (.int .i64 raw.table) ∧ w'.cell? ⟨w.heap.size, 1, none⟩ = some (.slice Aq nq cq) ∧ w'.cell? ⟨w.heap.size, 2, none⟩ = some (.int .i64 raw.prio) ∧ w'.cell? ⟨w.heap.size, 3, none⟩ = some (.int .i64 raw.action) ∧ w'.cell? ⟨w.heap.size, 4, none⟩ = some (.slice Au nu cu) ∧ w'.cell? ⟨w.heap.size, 5, none⟩ = some (.int .i64 rn) ∧ w'.cell? ⟨w.heap.size, 6, none⟩ = some (.int .i64 ro) ∧ w'.cell? ⟨P, 0, none⟩ = some (.int .i64 r.e.table) ∧ w'.cell? ⟨P, 1, none⟩ = some (.slice r.a r.n r.c) ∧ w'.cell? ⟨P, 2, none⟩ = some (.int .i64 r.e.prio) ∧ w'.cell? ⟨P, 3, none⟩ = some (.int .i64 r.e.action) ∧ w'.cell? ⟨P, 4, none⟩ = some (.slice r.a2 r.n2 r.c2) ∧ w'.cell? ⟨P, 5, none⟩ = some (.int .i64 n) ∧ w'.cell? ⟨P, 6, none⟩ = some (.int .i64 0) ∧ w'.cell? ⟨Q, 0, none⟩ = some (.int .i64 s.e.table) ∧ w'.cell? ⟨Q, 1, none⟩ = some (.slice s.a s.n s.c) ∧ w'.cell? ⟨Q, 2, none⟩ = some (.int .i64 s.e.prio) ∧ w'.cell? ⟨Q, 3, none⟩ = some (.int .i64 s.e.action) ∧ w'.cell? ⟨Q, 4, none⟩ = some (.slice s.a2 s.n2 s.c2) ∧ w'.cell? ⟨Q, 5, none⟩ = some (.int .i64 m) ∧ w'.cell? ⟨Q, 6, none⟩ = some (.int .i64 0)) := Lib.hid fun w' hb => by
      have q0 := (hb.block (w4.heap.size) (by omega)).trans BS6.out
      have q1 := (hb.block (w.heap.size) (by omega)).trans BR6.out
      have q2 := (hb.block (P) (by omega)).trans BP6.out
      have q3 := (hb.block (Q) (by omega)).trans BQ6.out
      exact ⟨hb, blk_cell q0 0 _ rfl, blk_cell q0 1 _ rfl, blk_cell q0 2 _ rfl, blk_cell q0 3 _ rfl, blk_cell q0 4 _ rfl, blk_cell q0 5 _ rfl, blk_cell q0 6 _ rfl, blk_cell q0 7 _ rfl, blk_cell q0 8 _ rfl, blk_cell q0 9 _ rfl, blk_cell q1 0 _ rfl, blk_cell q1 1 _ rfl, blk_cell q1 2 _ rfl, blk_cell q1 3 _ rfl, blk_cell q1 4 _ rfl, blk_cell q1 5 _ rfl, blk_cell q1 6 _ rfl, blk_cell q2 0 _ rfl, blk_cell q2 1 _ rfl, blk_cell q2 2 _ rfl, blk_cell q2 3 _ rfl, blk_cell q2 4 _ rfl, blk_cell q2 5 _ rfl, blk_cell q2 6 _ rfl, blk_cell q3 0 _ rfl, blk_cell q3 1 _ rfl, blk_cell q3 2 _ rfl, blk_cell q3 3 _ rfl, blk_cell q3 4 _ rfl, blk_cell q3 5 _ rfl, blk_cell q3 6 _ rfl⟩
    go_upto_region 3 with fail
    go_cut [64] from 34 to 63 (fun v64 wx => v64 = .bool false ∧ Below W6.heap.size W6 wx)
    case first =>
      go_region_held3 (fun w' => Below W6.heap.size W6 w' ∧ w'.cell? ⟨w4.heap.size, 0, none⟩ = some (.slice A0 n0 c0) ∧ w'.cell? ⟨w4.heap.size, 1, none⟩ = some (.slice A1 n1 c1) ∧ w'.cell? ⟨w4.heap.size, 2, none⟩ = some (.slice A2 n2 c2) ∧ w'.cell? ⟨w4.heap.size, 3, none⟩ = some (.slice A3 n3 c3) ∧ w'.cell? ⟨w4.heap.size, 4, none⟩ = some (.slice A4 n4 c4) ∧ w'.cell? ⟨w4.heap.size, 5, none⟩ = some (.slice A5 n5 c5) ∧ w'.cell? ⟨w4.heap.size, 6, none⟩ = some (.slice A6 n6 c6) ∧ w'.cell? ⟨w4.heap.size, 7, none⟩ = some (.slice A7 n7 c7) ∧ w'.cell? ⟨w4.heap.size, 8, none⟩ = some (.int .i64 x.maxBatch) ∧ w'.cell? ⟨w4.heap.size, 9, none⟩ = some (.int .i64 x.budget) ∧ w'.cell? ⟨w.heap.size, 0, none⟩ = some (.int .i64 raw.table) ∧ w'.cell? ⟨w.heap.size, 1, none⟩ = some (.slice Aq nq cq) ∧ w'.cell? ⟨w.heap.size, 2, none⟩ = some (.int .i64 raw.prio) ∧ w'.cell? ⟨w.heap.size, 3, none⟩ = some (.int .i64 raw.action) ∧ w'.cell? ⟨w.heap.size, 4, none⟩ = some (.slice Au nu cu) ∧ w'.cell? ⟨w.heap.size, 5, none⟩ = some (.int .i64 rn) ∧ w'.cell? ⟨w.heap.size, 6, none⟩ = some (.int .i64 ro) ∧ w'.cell? ⟨P, 0, none⟩ = some (.int .i64 r.e.table) ∧ w'.cell? ⟨P, 1, none⟩ = some (.slice r.a r.n r.c) ∧ w'.cell? ⟨P, 2, none⟩ = some (.int .i64 r.e.prio) ∧ w'.cell? ⟨P, 3, none⟩ = some (.int .i64 r.e.action) ∧ w'.cell? ⟨P, 4, none⟩ = some (.slice r.a2 r.n2 r.c2) ∧ w'.cell? ⟨P, 5, none⟩ = some (.int .i64 n) ∧ w'.cell? ⟨P, 6, none⟩ = some (.int .i64 0) ∧ w'.cell? ⟨Q, 0, none⟩ = some (.int .i64 s.e.table) ∧ w'.cell? ⟨Q, 1, none⟩ = some (.slice s.a s.n s.c) ∧ w'.cell? ⟨Q, 2, none⟩ = some (.int .i64 s.e.prio) ∧ w'.cell? ⟨Q, 3, none⟩ = some (.int .i64 s.e.action) ∧ w'.cell? ⟨Q, 4, none⟩ = some (.slice s.a2 s.n2 s.c2) ∧ w'.cell? ⟨Q, 5, none⟩ = some (.int .i64 m) ∧ w'.cell? ⟨Q, 6, none⟩ = some (.int .i64 0))
        (first
          | exact HKS.out _ (Below.drew (Below.refl _ _))
          | exact HKS.out _ (below_call (And.left (by assumption)) (by assumption))
          | assumption)
        (first
          | (go_at_call 21; (with_reducible refine (KA.out _ (And.left (by assumption))).mono ?_); rintro en vKA ⟨rfl, hvKA⟩)
          | (go_at_call 22; (with_reducible refine (KB.out _ (And.left (by assumption))).mono ?_); rintro en vKB ⟨rfl, hvKB⟩)
          | (go_at_call 21; (with_reducible refine (KC.out _ (And.left (by assumption))).mono ?_); rintro en vKC ⟨rfl, hvKC⟩)
          | (go_at_call 22; (with_reducible refine (KD.out _ (And.left (by assumption))).mono ?_); rintro en vKD ⟨rfl, hvKD⟩)
          | (go_at_call 21; (with_reducible refine (KF.out _ (And.left (by assumption))).mono ?_); rintro en vKF ⟨rfl, hvKF⟩)
          | (go_at_call 22; (with_reducible refine (KG.out _ (And.left (by assumption))).mono ?_); rintro en vKG ⟨rfl, hvKG⟩))
      all_goals go_wp2_with fail
      all_goals go_meet
      all_goals exact ⟨by first | rfl | simp, And.left (by assumption : Below W6.heap.size W6 _ ∧ _)⟩
    case rest =>
      obtain ⟨rfl, hb67⟩ := hcut
      obtain ⟨W7, hW7⟩ : ∃ z, z = wc := ⟨_, rfl⟩
      subst hW7
      have hz67 := hb67.size
      have BS7 := Lib.hid ((hb67.block w4.heap.size (by omega)).trans BS6.out)
      have BR7 := Lib.hid ((hb67.block w.heap.size (by omega)).trans BR6.out)
      have BP7 := Lib.hid ((hb67.block P (by omega)).trans BP6.out)
      have BQ7 := Lib.hid ((hb67.block Q (by omega)).trans BQ6.out)
      have HB7 := Lib.hid (HB6.out.trans (hb67.mono (show w.heap.size ≤ W6.heap.size by omega)))
      have hto : ∀ W, Below W7.heap.size W7 W → Below W6.heap.size W6 W := fun W hb => hb67.trans (hb.mono hz67)
      have LA := Lib.hid fun W hb => KA.out W (hto W hb)
      have LH := Lib.hid fun W hb => KH.out W (hto W hb)
      have LI := Lib.hid fun W hb => KI.out W (hto W hb)
      clear hto hb67 KA KB KC KD KF KG KH KI HKS
      have HKS : Hid (∀ w', Below W7.heap.size W7 w' → Below W7.heap.size W7 w' ∧ w'.cell? ⟨w4.heap.size, 0, none⟩ = some (.slice A0 n0 c0) ∧ w'.cell? ⟨w4.heap.size, 1, none⟩ = some (.slice A1 n1 c1) ∧ w'.cell? ⟨w4.heap.size, 2, none⟩ = some (.slice A2 n2 c2) ∧ w'.cell? ⟨w4.heap.size, 3, none⟩ = some (.slice A3 n3 c3) ∧ w'.cell? ⟨w4.heap.size, 4, none⟩ = some (.slice A4 n4 c4) ∧ w'.cell? ⟨w4.heap.size, 5, none⟩ = some (.slice A5 n5 c5) ∧ w'.cell? ⟨w4.heap.size, 6, none⟩ = some (.slice A6 n6 c6) ∧ w'.cell? ⟨w4.heap.size, 7, none⟩ = some (.slice A7 n7 c7) ∧ w'.cell? ⟨w4.heap.size, 8, none⟩ = some (.int .i64 x.maxBatch) ∧ w'.cell? ⟨w4.heap.size, 9, none⟩ = some (.int .i64 x.budget) ∧ w'.cell? ⟨P, 0, none⟩ = some (.int .i64 r.e.table) ∧ w'.cell? ⟨P, 1, none⟩ = some (.slice r.a r.n r.c) ∧ w'.cell? ⟨P, 2, none⟩ = some (.int .i64 r.e.prio) ∧ w'.cell? ⟨P, 3, none⟩ = some (.int .i64 r.e.action) ∧ w'.cell? ⟨P, 4, none⟩ = some (.slice r.a2 r.n2 r.c2) ∧ w'.cell? ⟨P, 5, none⟩ = some (.int .i64 n) ∧ w'.cell? ⟨P, 6, none⟩ = some (.int .i64 0) ∧ w'.cell? ⟨Q, 0, none⟩ = some (.int .i64 s.e.table) ∧ w'.cell? ⟨Q, 1, none⟩ = some (.slice s.a s.n s.c) ∧ w'.cell? ⟨Q, 2, none⟩ = some (.int .i64 s.e.prio) ∧ w'.cell? ⟨Q, 3, none⟩ = some (.int .i64 s.e.action) ∧ w'.cell? ⟨Q, 4, none⟩ = some (.slice s.a2 s.n2 s.c2) ∧ w'.cell? ⟨Q, 5, none⟩ = some (.int .i64 m) ∧ w'.cell? ⟨Q, 6, none⟩ = some (.int .i64 0)) := Lib.hid fun w' hb => by
        have q0 := (hb.block (w4.heap.size) (by omega)).trans BS7.out
        have q1 := (hb.block (P) (by omega)).trans BP7.out
        have q2 := (hb.block (Q) (by omega)).trans BQ7.out
        exact ⟨hb, blk_cell q0 0 _ rfl, blk_cell q0 1 _ rfl, blk_cell q0 2 _ rfl, blk_cell q0 3 _ rfl, blk_cell q0 4 _ rfl, blk_cell q0 5 _ rfl, blk_cell q0 6 _ rfl, blk_cell q0 7 _ rfl, blk_cell q0 8 _ rfl, blk_cell q0 9 _ rfl, blk_cell q1 0 _ rfl, blk_cell q1 1 _ rfl, blk_cell q1 2 _ rfl, blk_cell q1 3 _ rfl, blk_cell q1 4 _ rfl, blk_cell q1 5 _ rfl, blk_cell q1 6 _ rfl, blk_cell q2 0 _ rfl, blk_cell q2 1 _ rfl, blk_cell q2 2 _ rfl, blk_cell q2 3 _ rfl, blk_cell q2 4 _ rfl, blk_cell q2 5 _ rfl, blk_cell q2 6 _ rfl⟩
      by_cases hnm : n = m
      · subst hnm
        go_wp2_with fail
        refine wp_region_noPanic ?_
        refine wp_region_held_drew (S := fun w' => Below W7.heap.size W7 w' ∧ w'.cell? ⟨w4.heap.size, 0, none⟩ = some (.slice A0 n0 c0) ∧ w'.cell? ⟨w4.heap.size, 1, none⟩ = some (.slice A1 n1 c1) ∧ w'.cell? ⟨w4.heap.size, 2, none⟩ = some (.slice A2 n2 c2) ∧ w'.cell? ⟨w4.heap.size, 3, none⟩ = some (.slice A3 n3 c3) ∧ w'.cell? ⟨w4.heap.size, 4, none⟩ = some (.slice A4 n4 c4) ∧ w'.cell? ⟨w4.heap.size, 5, none⟩ = some (.slice A5 n5 c5) ∧ w'.cell? ⟨w4.heap.size, 6, none⟩ = some (.slice A6 n6 c6) ∧ w'.cell? ⟨w4.heap.size, 7, none⟩ = some (.slice A7 n7 c7) ∧ w'.cell? ⟨w4.heap.size, 8, none⟩ = some (.int .i64 x.maxBatch) ∧ w'.cell? ⟨w4.heap.size, 9, none⟩ = some (.int .i64 x.budget) ∧ w'.cell? ⟨P, 0, none⟩ = some (.int .i64 r.e.table) ∧ w'.cell? ⟨P, 1, none⟩ = some (.slice r.a r.n r.c) ∧ w'.cell? ⟨P, 2, none⟩ = some (.int .i64 r.e.prio) ∧ w'.cell? ⟨P, 3, none⟩ = some (.int .i64 r.e.action) ∧ w'.cell? ⟨P, 4, none⟩ = some (.slice r.a2 r.n2 r.c2) ∧ w'.cell? ⟨P, 5, none⟩ = some (.int .i64 n) ∧ w'.cell? ⟨P, 6, none⟩ = some (.int .i64 0) ∧ w'.cell? ⟨Q, 0, none⟩ = some (.int .i64 s.e.table) ∧ w'.cell? ⟨Q, 1, none⟩ = some (.slice s.a s.n s.c) ∧ w'.cell? ⟨Q, 2, none⟩ = some (.int .i64 s.e.prio) ∧ w'.cell? ⟨Q, 3, none⟩ = some (.int .i64 s.e.action) ∧ w'.cell? ⟨Q, 4, none⟩ = some (.slice s.a2 s.n2 s.c2) ∧ w'.cell? ⟨Q, 5, none⟩ = some (.int .i64 n) ∧ w'.cell? ⟨Q, 6, none⟩ = some (.int .i64 0)) (by kernel_rfl) (HKS.out _ (Below.drew (Below.refl _ _))) (fun hHeld => ?_)
        refine wpAnyH_take (i := 0) (oi := ({ dst := some 65, op := Op.move (Operand.tmp 3), type := _, pos := "law.go:112", after := _, guard := none } : Oper)) (v := ?_) rfl (by kernel_rfl) (by kernel_rfl) (by kernel_rfl) (fun _ _ _ h => h) (Or.inl ⟨by rfl, ?_⟩) hHeld ?_
        rotate_left
        · (intro w1 hSw; (try dsimp only at hSw); go_simp; all_goals with_reducible rfl)
        (try simp only [Act.put, List.setIfInBounds_toArray, List.set_cons_zero, List.set_cons_succ])
        refine wpAnyH_take (i := 1) (oi := ({ dst := some 66, op := Op.move (Operand.tmp 4), type := _, pos := "law.go:112", after := _, guard := none } : Oper)) (v := ?_) rfl (by kernel_rfl) (by kernel_rfl) (by kernel_rfl) (fun _ _ _ h => h) (Or.inl ⟨by rfl, ?_⟩) hHeld ?_
        rotate_left
        · (intro w1 hSw; (try dsimp only at hSw); go_simp; all_goals with_reducible rfl)
        (try simp only [Act.put, List.setIfInBounds_toArray, List.set_cons_zero, List.set_cons_succ])
        refine wpAnyH_take (i := 2) (oi := ({ dst := some 67, op := Op.binOp BinOp.eql 3 (Operand.tmp 65) (Operand.tmp 66) 3, type := _, pos := "law.go:112", after := _, guard := none } : Oper)) (v := ?_) rfl (by kernel_rfl) (by kernel_rfl) (by kernel_rfl) (fun _ _ _ h => h) (Or.inl ⟨by rfl, ?_⟩) hHeld ?_
        rotate_left
        · (intro w1 hSw; (try dsimp only at hSw); go_simp; all_goals with_reducible rfl)
        (try simp only [Act.put, List.setIfInBounds_toArray, List.set_cons_zero, List.set_cons_succ])
        refine wpAnyH_take (i := 3) (oi := ({ dst := some 68, op := Op.move (Operand.tmp 67), type := _, pos := "law.go:112", after := _, guard := none } : Oper)) (v := ?_) rfl (by kernel_rfl) (by kernel_rfl) (by kernel_rfl) (fun _ _ _ h => h) (Or.inl ⟨by rfl, ?_⟩) hHeld ?_
        rotate_left
        · (intro w1 hSw; (try dsimp only at hSw); go_simp; all_goals with_reducible rfl)
        (try simp only [Act.put, List.setIfInBounds_toArray, List.set_cons_zero, List.set_cons_succ])
        refine wpAnyH_take (i := 4) (oi := ({ dst := some 69, op := Op.load 45 (Operand.tmp 13), type := _, pos := "law.go:112", after := _, guard := some (3, false) } : Oper)) (v := undef) rfl (by kernel_rfl) (by kernel_rfl) (by kernel_rfl) (fun _ _ _ h => h) (Or.inr ⟨by rfl, rfl⟩) hHeld ?_
        (try simp only [Act.put, List.setIfInBounds_toArray, List.set_cons_zero, List.set_cons_succ])
        refine wpAnyH_take (i := 5) (oi := ({ dst := some 70, op := Op.load 60 (Operand.tmp 15), type := _, pos := "law.go:112", after := _, guard := some (3, false) } : Oper)) (v := undef) rfl (by kernel_rfl) (by kernel_rfl) (by kernel_rfl) (fun _ _ _ h => h) (Or.inr ⟨by rfl, rfl⟩) hHeld ?_
        (try simp only [Act.put, List.setIfInBounds_toArray, List.set_cons_zero, List.set_cons_succ])
        refine wpAnyH_take (i := 6) (oi := ({ dst := some 71, op := Op.load 60 (Operand.tmp 16), type := _, pos := "law.go:112", after := _, guard := some (3, false) } : Oper)) (v := undef) rfl (by kernel_rfl) (by kernel_rfl) (by kernel_rfl) (fun _ _ _ h => h) (Or.inr ⟨by rfl, rfl⟩) hHeld ?_
        (try simp only [Act.put, List.setIfInBounds_toArray, List.set_cons_zero, List.set_cons_succ])
        refine wpAnyH_take (i := 7) (oi := ({ dst := some 72, op := Op.call { callee := Callee.value (Operand.func 21), args := #[Operand.tmp 69, Operand.tmp 70, Operand.tmp 71], argTypes := _ }, type := _, pos := "law.go:112", after := _, guard := some (3, false) } : Oper)) (v := undef) rfl (by kernel_rfl) (by kernel_rfl) (by kernel_rfl) (fun _ _ _ h => h) (Or.inr ⟨by rfl, rfl⟩) hHeld ?_
        (try simp only [Act.put, List.setIfInBounds_toArray, List.set_cons_zero, List.set_cons_succ])
        refine wpAnyH_take (i := 8) (oi := ({ dst := some 73, op := Op.load 45 (Operand.tmp 13), type := _, pos := "law.go:112", after := _, guard := some (3, false) } : Oper)) (v := undef) rfl (by kernel_rfl) (by kernel_rfl) (by kernel_rfl) (fun _ _ _ h => h) (Or.inr ⟨by rfl, rfl⟩) hHeld ?_
        (try simp only [Act.put, List.setIfInBounds_toArray, List.set_cons_zero, List.set_cons_succ])
        refine wpAnyH_take (i := 9) (oi := ({ dst := some 74, op := Op.load 60 (Operand.tmp 16), type := _, pos := "law.go:112", after := _, guard := some (3, false) } : Oper)) (v := undef) rfl (by kernel_rfl) (by kernel_rfl) (by kernel_rfl) (fun _ _ _ h => h) (Or.inr ⟨by rfl, rfl⟩) hHeld ?_
        (try simp only [Act.put, List.setIfInBounds_toArray, List.set_cons_zero, List.set_cons_succ])
        refine wpAnyH_take (i := 10) (oi := ({ dst := some 75, op := Op.load 60 (Operand.tmp 15), type := _, pos := "law.go:112", after := _, guard := some (3, false) } : Oper)) (v := undef) rfl (by kernel_rfl) (by kernel_rfl) (by kernel_rfl) (fun _ _ _ h => h) (Or.inr ⟨by rfl, rfl⟩) hHeld ?_
        (try simp only [Act.put, List.setIfInBounds_toArray, List.set_cons_zero, List.set_cons_succ])
        refine wpAnyH_take (i := 11) (oi := ({ dst := some 76, op := Op.call { callee := Callee.value (Operand.func 21), args := #[Operand.tmp 73, Operand.tmp 74, Operand.tmp 75], argTypes := _ }, type := _, pos := "law.go:112", after := _, guard := some (3, false) } : Oper)) (v := undef) rfl (by kernel_rfl) (by kernel_rfl) (by kernel_rfl) (fun _ _ _ h => h) (Or.inr ⟨by rfl, rfl⟩) hHeld ?_
        (try simp only [Act.put, List.setIfInBounds_toArray, List.set_cons_zero, List.set_cons_succ])
        refine wpAnyH_take (i := 12) (oi := ({ dst := some 77, op := Op.binOp BinOp.neq 4 (Operand.tmp 72) (Operand.tmp 76) 4, type := _, pos := "law.go:112", after := _, guard := some (3, false) } : Oper)) (v := undef) rfl (by kernel_rfl) (by kernel_rfl) (by kernel_rfl) (fun _ _ _ h => h) (Or.inr ⟨by rfl, rfl⟩) hHeld ?_
        (try simp only [Act.put, List.setIfInBounds_toArray, List.set_cons_zero, List.set_cons_succ])
        refine wpAnyH_take (i := 13) (oi := ({ dst := some 78, op := Op.pick (Operand.tmp 68) (Operand.const (Value.bool true)) (Operand.tmp 77), type := _, pos := "law.go:112", after := _, guard := none } : Oper)) (v := ?_) rfl (by kernel_rfl) (by kernel_rfl) (by kernel_rfl) (fun _ _ _ h => h) (Or.inl ⟨by rfl, ?_⟩) hHeld ?_
        rotate_left
        · (intro w1 hSw; (try dsimp only at hSw); go_simp; all_goals with_reducible rfl)
        (try simp only [Act.put, List.setIfInBounds_toArray, List.set_cons_zero, List.set_cons_succ])
        refine wpAnyH_take (i := 14) (oi := ({ dst := some 79, op := Op.move (Operand.tmp 78), type := _, pos := "law.go:112", after := _, guard := none } : Oper)) (v := ?_) rfl (by kernel_rfl) (by kernel_rfl) (by kernel_rfl) (fun _ _ _ h => h) (Or.inl ⟨by rfl, ?_⟩) hHeld ?_
        rotate_left
        · (intro w1 hSw; (try dsimp only at hSw); go_simp; all_goals with_reducible rfl)
        (try simp only [Act.put, List.setIfInBounds_toArray, List.set_cons_zero, List.set_cons_succ])
        refine wpAnyH_take (i := 15) (oi := ({ dst := some 80, op := Op.load 45 (Operand.tmp 13), type := _, pos := "law.go:112", after := _, guard := some (14, true) } : Oper)) (v := ?_) rfl (by kernel_rfl) (by kernel_rfl) (by kernel_rfl) (fun _ _ _ h => h) (Or.inl ⟨by rfl, ?_⟩) hHeld ?_
        rotate_left
        · (intro w1 hSw; (try dsimp only at hSw); go_simp; all_goals with_reducible rfl)
        (try simp only [Act.put, List.setIfInBounds_toArray, List.set_cons_zero, List.set_cons_succ])
        refine wpAnyH_take (i := 16) (oi := ({ dst := some 81, op := Op.load 60 (Operand.tmp 15), type := _, pos := "law.go:112", after := _, guard := some (14, true) } : Oper)) (v := ?_) rfl (by kernel_rfl) (by kernel_rfl) (by kernel_rfl) (fun _ _ _ h => h) (Or.inl ⟨by rfl, ?_⟩) hHeld ?_
        rotate_left
        · (intro w1 hSw; (try dsimp only at hSw); go_simp; all_goals with_reducible rfl)
        (try simp only [Act.put, List.setIfInBounds_toArray, List.set_cons_zero, List.set_cons_succ])
        refine wpAnyH_take (i := 17) (oi := ({ dst := some 82, op := Op.load 60 (Operand.tmp 15), type := _, pos := "law.go:112", after := _, guard := some (14, true) } : Oper)) (v := ?_) rfl (by kernel_rfl) (by kernel_rfl) (by kernel_rfl) (fun _ _ _ h => h) (Or.inl ⟨by rfl, ?_⟩) hHeld ?_
        rotate_left
        · (intro w1 hSw; (try dsimp only at hSw); go_simp; all_goals with_reducible rfl)
        (try simp only [Act.put, List.setIfInBounds_toArray, List.set_cons_zero, List.set_cons_succ])
        refine wpAnyH_ready (rs := [18]) (by kernel_rfl) (by simp) ?_
        refine AllReadyH.cons (o := ({ dst := some 83, op := Op.call { callee := Callee.value (Operand.func 21), args := #[Operand.tmp 80, Operand.tmp 81, Operand.tmp 82], argTypes := _ }, type := _, pos := "law.go:112", after := _, guard := some (14, true) } : Oper)) rfl (fun K hK => ?_) AllReadyH.nil
        go_simp
        go_wp2_with (go_at_call 21; (with_reducible refine (LI.out _ (And.left hHeld)).mono ?_); rintro en v1 ⟨rfl, hv1⟩)
        refine hK.out _ _ ?_ (fun hHeld2 => ?_)
        · exact HKS.out _ (below_call (And.left hHeld) (by assumption))
        clear hK K hHeld
        have hHeld := hHeld2
        clear hHeld2
        (try simp only [Act.put, List.setIfInBounds_toArray, List.set_cons_zero, List.set_cons_succ])
        refine wpAnyH_take (i := 19) (oi := ({ dst := some 84, op := Op.unOp UnOp.not 4 (Operand.tmp 83), type := _, pos := "law.go:112", after := _, guard := some (14, true) } : Oper)) (v := ?_) rfl (by kernel_rfl) (by kernel_rfl) (by kernel_rfl) (fun _ _ _ h => h) (Or.inl ⟨by rfl, ?_⟩) hHeld ?_
        rotate_left
        · (intro w1 hSw; (try dsimp only at hSw); go_simp; all_goals with_reducible rfl)
        (try simp only [Act.put, List.setIfInBounds_toArray, List.set_cons_zero, List.set_cons_succ])
        refine wpAnyH_take (i := 20) (oi := ({ dst := some 85, op := Op.pick (Operand.tmp 79) (Operand.tmp 84) (Operand.const (Value.bool false)), type := _, pos := "law.go:112", after := _, guard := none } : Oper)) (v := ?_) rfl (by kernel_rfl) (by kernel_rfl) (by kernel_rfl) (fun _ _ _ h => h) (Or.inl ⟨by rfl, ?_⟩) hHeld ?_
        rotate_left
        · (intro w1 hSw; (try dsimp only at hSw); go_simp; all_goals with_reducible rfl)
        (try simp only [Act.put, List.setIfInBounds_toArray, List.set_cons_zero, List.set_cons_succ])
        refine wpAnyH_take (i := 21) (oi := ({ dst := some 86, op := Op.move (Operand.tmp 85), type := _, pos := "law.go:112", after := _, guard := none } : Oper)) (v := ?_) rfl (by kernel_rfl) (by kernel_rfl) (by kernel_rfl) (fun _ _ _ h => h) (Or.inl ⟨by rfl, ?_⟩) hHeld ?_
        rotate_left
        · (intro w1 hSw; (try dsimp only at hSw); go_simp; all_goals with_reducible rfl)
        (try simp only [Act.put, List.setIfInBounds_toArray, List.set_cons_zero, List.set_cons_succ])
        refine wpAnyH_ready (rs := [22]) (by kernel_rfl) (by simp) ?_
        refine AllReadyH.cons (o := ({ dst := some 87, op := Op.call { callee := Callee.value (Operand.func 20), args := #[], argTypes := _ }, type := _, pos := "law.go:112", after := _, guard := some (21, true) } : Oper)) rfl (fun K hK => ?_) AllReadyH.nil
        go_simp
        go_wp2_with (go_at_call 20; (with_reducible refine (g_begun _).mono ?_); rintro en v1 ⟨rfl, hv1⟩)
        refine hK.out _ _ ?_ (fun hHeld2 => ?_)
        · exact HKS.out _ (below_call (And.left hHeld) (by assumption))
        clear hK K hHeld
        have hHeld := hHeld2
        clear hHeld2
        (try simp only [Act.put, List.setIfInBounds_toArray, List.set_cons_zero, List.set_cons_succ])
        refine wpAnyH_take (i := 23) (oi := ({ dst := some 88, op := Op.pick (Operand.tmp 86) (Operand.tmp 87) (Operand.const (Value.bool false)), type := _, pos := "law.go:112", after := _, guard := none } : Oper)) (v := ?_) rfl (by kernel_rfl) (by kernel_rfl) (by kernel_rfl) (fun _ _ _ h => h) (Or.inl ⟨by rfl, ?_⟩) hHeld ?_
        rotate_left
        · (intro w1 hSw; (try dsimp only at hSw); go_simp; all_goals with_reducible rfl)
        (try simp only [Act.put, List.setIfInBounds_toArray, List.set_cons_zero, List.set_cons_succ])
        refine wpAnyH_take (i := 24) (oi := ({ dst := some 12, op := Op.assign (Operand.tmp 88), type := _, pos := "law.go:112", after := _, guard := none } : Oper)) (v := ?_) rfl (by kernel_rfl) (by kernel_rfl) (by kernel_rfl) (fun _ _ _ h => h) (Or.inl ⟨by rfl, ?_⟩) hHeld ?_
        rotate_left
        · (intro w1 hSw; (try dsimp only at hSw); go_simp; all_goals with_reducible rfl)
        (try simp only [Act.put, List.setIfInBounds_toArray, List.set_cons_zero, List.set_cons_succ])
        refine wpAnyH_done (by kernel_rfl) ?_ _
        refine NoPanic.normal ?_
        all_goals go_wp2
        all_goals go_ret
        all_goals exact ⟨by first | rfl | simp, HB7.out.trans ((And.left hHeld).mono HB7.out.size)⟩
      · have hbe : (n == m) = false := beq_false_of_ne hnm
        have hde : decide (n = m) = false := decide_eq_false hnm
        obtain rfl : b4 = !b1 := HFL.out hnm
        clear HFL hnm
        go_wp2_with fail
        go_region_held3 (fun w' => Below W7.heap.size W7 w' ∧ w'.cell? ⟨w4.heap.size, 0, none⟩ = some (.slice A0 n0 c0) ∧ w'.cell? ⟨w4.heap.size, 1, none⟩ = some (.slice A1 n1 c1) ∧ w'.cell? ⟨w4.heap.size, 2, none⟩ = some (.slice A2 n2 c2) ∧ w'.cell? ⟨w4.heap.size, 3, none⟩ = some (.slice A3 n3 c3) ∧ w'.cell? ⟨w4.heap.size, 4, none⟩ = some (.slice A4 n4 c4) ∧ w'.cell? ⟨w4.heap.size, 5, none⟩ = some (.slice A5 n5 c5) ∧ w'.cell? ⟨w4.heap.size, 6, none⟩ = some (.slice A6 n6 c6) ∧ w'.cell? ⟨w4.heap.size, 7, none⟩ = some (.slice A7 n7 c7) ∧ w'.cell? ⟨w4.heap.size, 8, none⟩ = some (.int .i64 x.maxBatch) ∧ w'.cell? ⟨w4.heap.size, 9, none⟩ = some (.int .i64 x.budget) ∧ w'.cell? ⟨P, 0, none⟩ = some (.int .i64 r.e.table) ∧ w'.cell? ⟨P, 1, none⟩ = some (.slice r.a r.n r.c) ∧ w'.cell? ⟨P, 2, none⟩ = some (.int .i64 r.e.prio) ∧ w'.cell? ⟨P, 3, none⟩ = some (.int .i64 r.e.action) ∧ w'.cell? ⟨P, 4, none⟩ = some (.slice r.a2 r.n2 r.c2) ∧ w'.cell? ⟨P, 5, none⟩ = some (.int .i64 n) ∧ w'.cell? ⟨P, 6, none⟩ = some (.int .i64 0) ∧ w'.cell? ⟨Q, 0, none⟩ = some (.int .i64 s.e.table) ∧ w'.cell? ⟨Q, 1, none⟩ = some (.slice s.a s.n s.c) ∧ w'.cell? ⟨Q, 2, none⟩ = some (.int .i64 s.e.prio) ∧ w'.cell? ⟨Q, 3, none⟩ = some (.int .i64 s.e.action) ∧ w'.cell? ⟨Q, 4, none⟩ = some (.slice s.a2 s.n2 s.c2) ∧ w'.cell? ⟨Q, 5, none⟩ = some (.int .i64 m) ∧ w'.cell? ⟨Q, 6, none⟩ = some (.int .i64 0))
          (first
            | exact HKS.out _ (Below.drew (Below.refl _ _))
            | exact HKS.out _ (below_call (And.left (by assumption)) (by assumption))
            | assumption)
          (first
            | (go_at_call 21; (with_reducible refine (LA.out _ (And.left (by assumption))).mono ?_); rintro en vLA ⟨rfl, hvLA⟩)
            | (go_at_call 21; (with_reducible refine (LH.out _ (And.left (by assumption))).mono ?_); rintro en vLH ⟨rfl, hvLH⟩)
            | (go_at_call 21; (with_reducible refine (LI.out _ (And.left (by assumption))).mono ?_); rintro en vLI ⟨rfl, hvLI⟩)
            | (go_at_call 20; (with_reducible refine (g_begun _).mono ?_); rintro en vZ ⟨rfl, hvZ⟩))
        all_goals go_wp2
        all_goals go_ret
        all_goals exact ⟨by first | rfl | simp, HB7.out.trans ((And.left (by assumption : Below W7.heap.size W7 _ ∧ _)).mono HB7.out.size)⟩
end
end Go.Proofs.Ythakjhjfooeljaa
