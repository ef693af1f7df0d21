/- Layer 12: the reference's New, prefix, place. -/
import Derived.Test.YtmlocfojmncghaaURef
namespace Go.Proofs.Ytmlocfojmncghaa
open Go.RowKit
set_option maxRecDepth 100000 in
set_option maxHeartbeats 4000000 in
theorem re_New (b : Int) (w : World) : Calls Try.prog 19 #[.int .i64 b] w fun e w' => e = .returned (.pointer (some ⟨w.heap.size, 0, none⟩)) ∧ w' = w.alloc (.cells #[.int .i64 (max 1 (min b 128)), .slice none 0 0] 64) := by
  go_enter Try.func19, Try.ntmps19
  go_wp2_with fail
  go_ret
  exact ⟨rfl, rfl⟩
theorem re_new {w : World} {b : Nat} : RE (w.alloc (.cells #[.int .i64 (b : Int), .slice none 0 0] 64)) w.heap.size b none 0 0 [] := by
  have h := heap_alloc_new w (.cells #[.int .i64 (b : Int), .slice none 0 0] 64)
  exact ⟨List.Pairwise.nil, fun e h => (by cases h), rfl, Nat.le_refl _, by simp, by unfold World.frozen?; rw [h]; rfl, blk_cell h 0 _ rfl, blk_cell h 1 _ rfl, .inl ⟨rfl, rfl⟩, .inl rfl⟩
set_option maxRecDepth 100000 in
set_option maxHeartbeats 4000000 in
theorem re_preNeg {w : World} {Y bits n0 cap : Nat} {A : Option Addr} {L : List PE} (h : RE w Y bits A n0 cap L) (v : Nat) (n : Int) (hn : n < 0) : Calls Try.prog 67 #[.pointer (some ⟨Y, 0, none⟩), .agg #[.int .u64 (hi v), .int .u64 (lo v)], .int .i64 n] w (RetX (.bool false) w) := by
  have h2 := h.below ((Below.refl _ w).alloc (Nat.le_refl _) (.cells #[.int .u64 (hi v), .int .u64 (lo v)] 29))
  have c0 := h2.b
  have hg : decide (0 ≤ n) = false := by simp; omega
  clear h h2
  go_enter Try.func67, Try.ntmps67
  go_upto_region 1 with fail
  go_quiet (fail)
  all_goals go_wp2
  all_goals go_ret
  all_goals exact ⟨rfl, ((Below.refl _ w).alloc (Nat.le_refl _) _).trans (below_dnU _ _ _)⟩
set_option maxRecDepth 100000 in
set_option maxHeartbeats 4000000 in
theorem re_preBig {w : World} {Y bits n0 cap : Nat} {A : Option Addr} {L : List PE} (h : RE w Y bits A n0 cap L) (v : Nat) (n : Int) (hn : 0 ≤ n) (hb : (bits : Int) < n) : Calls Try.prog 67 #[.pointer (some ⟨Y, 0, none⟩), .agg #[.int .u64 (hi v), .int .u64 (lo v)], .int .i64 n] w (RetX (.bool false) w) := by
  have h2 := h.below ((Below.refl _ w).alloc (Nat.le_refl _) (.cells #[.int .u64 (hi v), .int .u64 (lo v)] 29))
  have c0 := h2.b
  have hg : decide (0 ≤ n) = true := by simp; omega
  have hg2 : decide (n ≤ (bits : Int)) = false := by simp; omega
  clear h h2
  go_enter Try.func67, Try.ntmps67
  go_upto_region 1 with fail
  go_quiet (fail)
  all_goals go_wp2
  all_goals go_ret
  all_goals exact ⟨rfl, ((Below.refl _ w).alloc (Nat.le_refl _) _).trans (below_dnU _ _ _)⟩
set_option maxRecDepth 100000 in
set_option maxHeartbeats 4000000 in
theorem re_preIn {w : World} {Y bits n0 cap : Nat} {A : Option Addr} {L : List PE} (h : RE w Y bits A n0 cap L) (v : Nat) (hv : v < 2 ^ 128) (n : Int) (hn : 0 ≤ n) (hb : n ≤ (bits : Int)) : Calls Try.prog 67 #[.pointer (some ⟨Y, 0, none⟩), .agg #[.int .u64 (hi v), .int .u64 (lo v)], .int .i64 n] w (RetX (.bool (decide (v &&& lead bits n = v))) w) := by
  obtain ⟨W0, hW0⟩ : ∃ W, W = (w.alloc (.cells #[.int .u64 (hi v), .int .u64 (lo v)] 29)) := ⟨_, rfl⟩
  have hB0 : Below w.heap.size w W0 := by rw [hW0]; exact ((Below.refl w.heap.size w).alloc (by simp <;> omega) _)
  have hz0 : W0.heap.size = w.heap.size + 1 := by rw [hW0]; simp
  have b0_0 : W0.heap[w.heap.size]? = some (.cells #[.int .u64 (hi v), .int .u64 (lo v)] 29 (0, 0)) := by
    rw [hW0]
    exact heap_alloc_new _ _
  have h2 := h.below hB0
  have hq : ∀ W : World, (Op.equalIn 10000 29 (.agg #[.int .u64 (hi (v &&& lead bits n)), .int .u64 (lo (v &&& lead bits n))]) (.agg #[.int .u64 (hi v), .int .u64 (lo v)])).run Try.prog W = .ok (decide (v &&& lead bits n = v)) W := fun W => by rw [eq_valU, hilo_eqU _ _ (and_128U hv) hv]
  generalize decide (v &&& lead bits n = v) = r at hq ⊢
  have hG := eqG_valU
  have hl8 := lead_128U (bits : Int) n
  have hg1 : decide (0 ≤ n) = true := decide_eq_true hn
  have hg2 : decide (n ≤ (bits : Int)) = true := decide_eq_true hb
  have KL : Hid (∀ W, Calls Try.prog 61 #[.int .i64 bits, .int .i64 n] W (RetV (lead bits n) W)) := Lib.hid fun W => rleading_any _ _ W
  have KA : Hid (∀ W, Calls Try.prog 60 #[.agg #[.int .u64 (hi v), .int .u64 (lo v)], .agg #[.int .u64 (hi (lead bits n)), .int .u64 (lo (lead bits n))]] W (RetV (v &&& lead bits n) W)) := Lib.hid fun W => rand_any v (lead bits n) hv hl8 W
  have HKS : Hid (∀ w', Below W0.heap.size W0 w' → Below W0.heap.size W0 w' ∧ w'.cell? ⟨w.heap.size, 0, none⟩ = some (.int .u64 (hi v)) ∧ w'.cell? ⟨w.heap.size, 1, none⟩ = some (.int .u64 (lo v)) ∧ w'.cell? ⟨Y, 0, none⟩ = some (.int .i64 bits)) := Lib.hid fun w' hb => by
    have q0 := (hb.block (w.heap.size) (by omega)).trans b0_0
    exact ⟨hb, blk_cell q0 0 _ rfl, blk_cell q0 1 _ rfl, (h2.below hb).b⟩
  have HB0 := Lib.hid hB0
  have HW0 := Lib.hid hW0
  generalize lead (bits : Int) n = M at *
  clear hB0 hW0 b0_0 h h2
  go_enter Try.func67, Try.ntmps67
  go_upto_region 1 with fail
  rw [← HW0.out]
  go_region_held3 (fun w' => Below W0.heap.size W0 w' ∧ w'.cell? ⟨w.heap.size, 0, none⟩ = some (.int .u64 (hi v)) ∧ w'.cell? ⟨w.heap.size, 1, none⟩ = some (.int .u64 (lo v)) ∧ w'.cell? ⟨Y, 0, none⟩ = some (.int .i64 bits))
    (first
      | exact HKS.out _ (Below.drew (Below.refl _ _))
      | exact HKS.out _ (below_call (And.left (by assumption)) (by assumption))
      | exact HKS.out _ (below_alloc (And.left (by assumption)) _)
      | assumption)
    (first
      | (go_at_call 60; (with_reducible refine (KA.out _).mono ?_); rintro en v1 ⟨rfl, hv1⟩)
      | (go_at_call 61; (with_reducible refine (KL.out _).mono ?_); rintro en v1 ⟨rfl, hv1⟩))
  all_goals go_wp2
  all_goals go_ret
  all_goals exact ⟨rfl, HB0.out.trans ((And.left (by assumption : Below W0.heap.size W0 _ ∧ _)).mono HB0.out.size)⟩
theorem re_prefix {w : World} {Y bits n0 cap : Nat} {A : Option Addr} {L : List PE} (h : RE w Y bits A n0 cap L) (v : Nat) (hv : v < 2 ^ 128) (n : Int) : Calls Try.prog 67 #[.pointer (some ⟨Y, 0, none⟩), .agg #[.int .u64 (hi v), .int .u64 (lo v)], .int .i64 n] w (RetX (.bool (decide (preU bits v n))) w) := by
  by_cases h1 : n < 0
  · rw [decide_eq_false (fun h : preU bits v n => by have := h.1; omega)]
    exact re_preNeg h v n h1
  · by_cases h2 : (bits : Int) < n
    · rw [decide_eq_false (fun h : preU bits v n => by have := h.2.1; omega)]
      exact re_preBig h v n (by omega) h2
    · have e : decide (preU bits v n) = decide (v &&& lead bits n = v) := by
        by_cases h3 : v &&& lead bits n = v
        · rw [decide_eq_true h3]; exact decide_eq_true (⟨by omega, by omega, h3⟩ : preU bits v n)
        · rw [decide_eq_false h3, decide_eq_false (fun h : preU bits v n => h3 h.2.2)]
      rw [e]
      exact re_preIn h v hv n (by omega) (by omega)
theorem cmp_ls (q : PE) (v : Nat) (n : Int) : (cmp q.v v > 0 ∨ (cmp q.v v = 0 ∧ (q.n : Int) ≥ n)) ↔ lsE v n q = false := by
  rw [← Bool.not_eq_true, lsE_iff]
  unfold cmp
  split
  · omega
  · split <;> omega
def RetPlcE (L : List PE) (v : Nat) (n : Int) (w : World) (e : Ending) (w' : World) : Prop := e = .returned (.tuple #[.int .i64 (plcE v n L), .bool (hereE v n L)]) ∧ Below w.heap.size w w'
set_option maxRecDepth 100000 in
set_option maxHeartbeats 4000000 in
theorem re_place {w : World} {Y bits n0 cap : Nat} {A : Option Addr} {L : List PE} (h : RE w Y bits A n0 cap L) (hn : n0 ≤ 100000) (v : Nat) (hv : v < 2 ^ 128) (n : Int) : Calls Try.prog 66 #[.pointer (some ⟨Y, 0, none⟩), .agg #[.int .u64 (hi v), .int .u64 (lo v)], .int .i64 n] w (RetPlcE L v n w) := by
  have HR := Lib.hid h
  obtain ⟨w2, hw2⟩ : ∃ w2, w2 = w.alloc (.cells #[.int .u64 (hi v), .int .u64 (lo v)] 29) := ⟨_, rfl⟩
  have HB0 : Hid (Below w.heap.size w w2) := Lib.hid (by rw [hw2]; exact (Below.refl _ w).alloc (Nat.le_refl _) _)
  have HX0 : Hid (w2.heap[w.heap.size]? = some (.cells #[.int .u64 (hi v), .int .u64 (lo v)] 29 (0, 0))) := Lib.hid (by rw [hw2]; exact heap_alloc_new w _)
  have HW := Lib.hid hw2
  have HSZ : Hid (w.heap.size < w2.heap.size) := Lib.hid (by rw [hw2]; simp)
  have HR2 := Lib.hid (h.below HB0.out)
  clear h hw2
  go_enter Try.func66, Try.ntmps66
  go_wp2_with fail
  rw [← HW.out]
  go_loopw [8] (fun i W => ∃ k : Nat, k ≤ n0 ∧ i = .int .i64 k ∧ Below w2.heap.size w2 W ∧ ∀ j x, j < k → L[j]? = some x → lsE v n x = true) (fun i _ => n0 - (intOf i).toNat)
  case atStart => exact ⟨0, by omega, rfl, Below.refl _ _, fun j x hj => by omega⟩
  case round =>
    obtain ⟨k, hk, rfl, hb, hlow⟩ := hrel
    have HB := Lib.hid hb
    have HLOW := Lib.hid hlow
    have HRW := Lib.hid (HR2.out.below hb)
    have hc := HRW.out.c
    have hX := (hb.block _ HSZ.out).trans HX0.out
    have x0 := blk_cell hX 0 _ rfl
    have x1 := blk_cell hX 1 _ rfl
    have hcap := HRW.out.room
    have k0 : 0 ≤ (k : Int) := by omega
    clear hb hlow hX
    have hG := eqG_valU
    by_cases hlt : k < n0
    · have k1 : (k : Int) < (n0 : Int) := by omega
      have k2 : (k : Int) < (cap : Int) := by omega
      obtain ⟨q, hq⟩ : ∃ q, L[k]? = some q := ⟨_, List.getElem?_eq_getElem (by rw [HRW.out.len]; exact hlt)⟩
      obtain ⟨g, rfl, hgl, hcell⟩ := HRW.out.row.resolve_left (fun e => by rw [e] at hq; simp at hq)
      have h9 := hcell k q hq
      have p0 : wr.cell? ⟨g, k * 4, none⟩ = some (.int .u64 (hi q.v)) := h9 0 (by omega)
      have p1 : wr.cell? ⟨g, k * 4 + 1, none⟩ = some (.int .u64 (lo q.v)) := h9 1 (by omega)
      have hok := HR.out.ok q (List.mem_of_getElem? hq)
      have hcmp := fun W => rcompare_any q.v v hok.1 hv W
      have hls := cmp_ls q v n
      have HOK := Lib.hid hok
      have HQ := Lib.hid hq
      have HGL := Lib.hid hgl
      have HCELL : Hid (∀ W, Below w2.heap.size w2 W → W.cell? ⟨g, k * 4, none⟩ = some (.int .u64 (hi q.v)) ∧ W.cell? ⟨g, k * 4 + 1, none⟩ = some (.int .u64 (lo q.v)) ∧ W.cell? ⟨g, k * 4 + 2, none⟩ = some (.int .i64 q.n) ∧ W.cell? ⟨Y, 1, none⟩ = some (.slice (some ⟨g, 0, none⟩) n0 cap) ∧ W.cell? ⟨w.heap.size, 0, none⟩ = some (.int .u64 (hi v)) ∧ W.cell? ⟨w.heap.size, 1, none⟩ = some (.int .u64 (lo v))) := Lib.hid fun W hb => by
        have H := HR2.out.below hb
        obtain ⟨g', e, hgl', hcell'⟩ := H.row.resolve_left (fun e => by have := HQ.out; rw [e] at this; simp at this)
        injection e with e
        injection e with e
        subst e
        have h9 := hcell' k q HQ.out
        have hX := (hb.block _ HSZ.out).trans HX0.out
        exact ⟨h9 0 (by omega), h9 1 (by omega), h9 2 (by omega), H.c, blk_cell hX 0 _ rfl, blk_cell hX 1 _ rfl⟩
      generalize cmp q.v v = z at hcmp hls
      have HLS := Lib.hid hls
      clear h9 hcell hok hls
      go_wp2_with fail
      have HKS : Hid (∀ W, Below w2.heap.size w2 W → Below w2.heap.size w2 W ∧ W.cell? ⟨g, k * 4, none⟩ = some (.int .u64 (hi q.v)) ∧ W.cell? ⟨g, k * 4 + 1, none⟩ = some (.int .u64 (lo q.v)) ∧ W.cell? ⟨g, k * 4 + 2, none⟩ = some (.int .i64 q.n) ∧ W.cell? ⟨Y, 1, none⟩ = some (.slice (some ⟨g, 0, none⟩) n0 cap) ∧ W.cell? ⟨w.heap.size, 0, none⟩ = some (.int .u64 (hi v)) ∧ W.cell? ⟨w.heap.size, 1, none⟩ = some (.int .u64 (lo v))) := Lib.hid fun W hb => ⟨hb, HCELL.out W hb⟩
      go_region_held3 (fun W => Below w2.heap.size w2 W ∧ W.cell? ⟨g, k * 4, none⟩ = some (.int .u64 (hi q.v)) ∧ W.cell? ⟨g, k * 4 + 1, none⟩ = some (.int .u64 (lo q.v)) ∧ W.cell? ⟨g, k * 4 + 2, none⟩ = some (.int .i64 q.n) ∧ W.cell? ⟨Y, 1, none⟩ = some (.slice (some ⟨g, 0, none⟩) n0 cap) ∧ W.cell? ⟨w.heap.size, 0, none⟩ = some (.int .u64 (hi v)) ∧ W.cell? ⟨w.heap.size, 1, none⟩ = some (.int .u64 (lo v)))
        (first
          | exact HKS.out _ (HB.out.drew)
          | exact HKS.out _ (below_call (And.left (by assumption)) (by assumption)))
        (first
          | (go_at_call 81; (with_reducible refine (hcmp _).mono ?_); rintro e w3 ⟨rfl, hb3⟩))
      all_goals
        have HB3 := Lib.hid (And.left (by assumption : Below w2.heap.size w2 _ ∧ _))
        obtain ⟨c0, c1, c2, c3, c4, c5⟩ := HCELL.out _ HB3.out
        clear p0 p1 x0 x1 hc
        by_cases hs : lsE v n q = true
        · have hno : ¬ (z > 0 ∨ (z = 0 ∧ (q.n : Int) ≥ n)) := fun h => by rw [HLS.out.1 h] at hs; cases hs
          have HS := Lib.hid hs
          have z1 : decide (0 < z) = false := decide_eq_false fun h => hno (.inl h)
          have z1' : ¬ 0 < z := fun h => hno (.inl h)
          clear hs
          by_cases hz : z = 0
          · have z2 : ¬ n ≤ (q.n : Int) := fun h => hno (.inr ⟨hz, h⟩)
            have z3 : decide (n ≤ (q.n : Int)) = false := decide_eq_false z2
            clear hno
            subst hz
            go_wp2_with fail
            go_roundw
            case rel =>
              refine ⟨k + 1, by omega, by simp, HB3.out, fun j x hj hx => ?_⟩
              rcases Nat.lt_or_ge j k with h5 | h5
              · exact HLOW.out j x h5 hx
              · obtain rfl : j = k := by omega
                rw [HQ.out] at hx
                rw [← Option.some.inj hx]
                exact HS.out
            case measure => simp [intOf]; omega
          · have hz2 : (z == 0) = false := by simpa using hz
            clear hno
            go_wp2_with fail
            go_roundw
            case rel =>
              refine ⟨k + 1, by omega, by simp, HB3.out, fun j x hj hx => ?_⟩
              rcases Nat.lt_or_ge j k with h5 | h5
              · exact HLOW.out j x h5 hx
              · obtain rfl : j = k := by omega
                rw [HQ.out] at hx
                rw [← Option.some.inj hx]
                exact HS.out
            case measure => simp [intOf]; omega
        · have hs2 : lsE v n q = false := by simpa using hs
          have hyes := HLS.out.2 hs2
          have HS := Lib.hid hs2
          have HPL : Hid (k = plcE v n L) := Lib.hid (plcE_eq v n L k (by rw [HR.out.len]; omega) HLOW.out (fun x hx => by rw [HQ.out] at hx; rw [← Option.some.inj hx]; exact HS.out))
          have HHE : Hid (hereE v n L = isE v n q) := Lib.hid (here_at HR.out.asc (by rw [← HPL.out]; exact HQ.out))
          have hE : ∀ W : World, (Op.equalIn 10000 29 (.agg #[.int .u64 (hi q.v), .int .u64 (lo q.v)]) (.agg #[.int .u64 (hi v), .int .u64 (lo v)])).run Try.prog W = .ok (decide (q.v = v)) W := fun W => by rw [eq_valU, hilo_eqU _ _ HOK.out.1 hv]
          have hi2 : isE v n q = (decide (q.v = v) && decide ((q.n : Int) = n)) := rfl
          clear hs hs2
          obtain ⟨bb, hbb⟩ : ∃ bb, bb = decide (q.v = v) := ⟨_, rfl⟩
          rw [← hbb] at hE hi2
          clear hbb
          have HI2 := Lib.hid hi2
          clear hi2
          have HY := Lib.hid hyes
          clear hyes
          have key : ∀ (Q : Prop), (0 < z → Q) → (z = 0 → n ≤ (q.n : Int) → Q) → Q := fun Q h1 h2 => HY.out.elim h1 (fun h => h2 h.1 h.2)
          refine key _ (fun z1 => ?_) (fun z0 z2 => ?_)
          · have z1d : decide (0 < z) = true := decide_eq_true z1
            cases bb
            · go_wp2_with fail
              go_quiet (fail)
              go_wp2_with fail
              refine bodyPost_ret (v := .tuple #[.int .i64 k, .bool false]) (by simp [results, Try.results66, go_sem]) rfl ?_
              refine ⟨by rw [HHE.out, HI2.out, ← HPL.out]; rfl, ?_⟩
              have h3 := HB0.out.trans (HB3.out.mono HB0.out.size)
              exact ⟨h3.os, h3.tape, h3.output, h3.size, h3.block⟩
            · go_wp2_with fail
              go_quiet (fail)
              go_wp2_with fail
              refine bodyPost_ret (v := .tuple #[.int .i64 k, .bool (decide ((q.n : Int) = n))]) (by simp [results, Try.results66, go_sem]; rfl) rfl ?_
              refine ⟨by rw [HHE.out, HI2.out, ← HPL.out]; rfl, ?_⟩
              have h3 := HB0.out.trans (HB3.out.mono HB0.out.size)
              exact ⟨h3.os, h3.tape, h3.output, h3.size, h3.block⟩
          · subst z0
            have z2d : decide (n ≤ (q.n : Int)) = true := decide_eq_true z2
            cases bb
            · go_wp2_with fail
              go_quiet (fail)
              go_wp2_with fail
              refine bodyPost_ret (v := .tuple #[.int .i64 k, .bool false]) (by simp [results, Try.results66, go_sem]) rfl ?_
              refine ⟨by rw [HHE.out, HI2.out, ← HPL.out]; rfl, ?_⟩
              have h3 := HB0.out.trans (HB3.out.mono HB0.out.size)
              exact ⟨h3.os, h3.tape, h3.output, h3.size, h3.block⟩
            · go_wp2_with fail
              go_quiet (fail)
              go_wp2_with fail
              refine bodyPost_ret (v := .tuple #[.int .i64 k, .bool (decide ((q.n : Int) = n))]) (by simp [results, Try.results66, go_sem]; rfl) rfl ?_
              refine ⟨by rw [HHE.out, HI2.out, ← HPL.out]; rfl, ?_⟩
              have h3 := HB0.out.trans (HB3.out.mono HB0.out.size)
              exact ⟨h3.os, h3.tape, h3.output, h3.size, h3.block⟩
    · have k1 : ¬ (k : Int) < (n0 : Int) := by omega
      have k1d : decide ((k : Int) < (n0 : Int)) = false := by simpa using k1
      obtain rfl : n0 = k := by omega
      have HPL : Hid (n0 = plcE v n L) := Lib.hid (plcE_eq v n L n0 (by rw [HR.out.len]; omega) HLOW.out (fun x hx => by rw [List.getElem?_eq_none (by rw [HR.out.len]; omega)] at hx; cases hx))
      have HHE : Hid (hereE v n L = false) := Lib.hid (here_out (by rw [HR.out.len]; exact HPL.out.symm))
      go_wp2_with fail
      go_quiet (fail)
      go_wp2_with fail
      refine bodyPost_ret (v := .tuple #[.int .i64 n0, .bool false]) (by simp [results, Try.results66, go_sem]) rfl ?_
      refine ⟨by rw [HHE.out, ← HPL.out], ?_⟩
      have h3 := HB0.out.trans (HB.out.mono HB0.out.size)
      exact ⟨h3.os, h3.tape, h3.output, h3.size, h3.block⟩
end Go.Proofs.Ytmlocfojmncghaa
