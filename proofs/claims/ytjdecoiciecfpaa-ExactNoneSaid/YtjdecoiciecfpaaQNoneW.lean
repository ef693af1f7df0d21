/- Layer 11: the walk of ExactNone. -/
import Derived.Test.YtjdecoiciecfpaaQLaw
namespace Go.Proofs.Ytjdecoiciecfpaa
open Go.RowKit Go.Maps Go.Sort
/-- the numbers of a row of pairs -/
def IdsR (w : World) (base : Nat) (A : Option Addr) (n : Nat) (F : Nat → Int) : Prop := n = 0 ∨ ∃ g, A = some ⟨g, 0, none⟩ ∧ base ≤ g ∧ g < w.heap.size ∧ ∀ i, i < n → w.cell? ⟨g, i * 9 + 8, none⟩ = some (.int .i64 (F i)) ∧ w.frozen? ⟨g, i * 9 + 8, none⟩ = false
theorem ids_of_own {w : World} {base : Nat} {e : TypeId} {A : Option Addr} {cap : Nat} {f : Pt → Int} {pts : List Pt} (h : w.ownsRow base e 9 (.slice A pts.length cap) pts.length (rowP f pts)) : IdsR w base A pts.length (fun i => f (pts.getD i pt0)) ∧ pts.length ≤ cap := by
  rcases h.2 with ⟨e0, e1⟩ | ⟨g, cap', cur, e0, hb, hg, hn, _⟩
  · exact ⟨.inl e1, by rw [e1]; exact Nat.zero_le _⟩
  · injection e0 with e1 _ e3
    subst e1; subst e3
    refine ⟨.inr ⟨g, rfl, hb, (Array.getElem?_eq_some_iff.1 hg).1, fun i hi => ⟨?_, World.ownsRow.frozenAt h _⟩⟩, hn⟩
    have hp : pts[i]? = some (pts.getD i pt0) := by rw [List.getD_eq_getElem?_getD, List.getElem?_eq_getElem hi]; rfl
    rw [World.ownsRow.cellAt h (i * 9 + 8) (by omega), rowP_get f pts i 8 _ hp (by omega)]
    rfl
theorem IdsR.below {w w' : World} {base n : Nat} {A : Option Addr} {F : Nat → Int} (h : IdsR w base A n F) (hb : Below w.heap.size w w') : IdsR w' base A n F := by
  rcases h with h | ⟨g, h1, h2, h3, h4⟩
  · exact .inl h
  · exact .inr ⟨g, h1, h2, Nat.lt_of_lt_of_le h3 hb.size, fun i hi => ⟨by rw [hb.cell (p := ⟨g, _, none⟩) h3]; exact (h4 i hi).1, by rw [World.frozen?_of_block (a := ⟨g, _, none⟩) (hb.block g h3)]; exact (h4 i hi).2⟩⟩
theorem IdsR.congr {w : World} {base n : Nat} {A : Option Addr} {F G : Nat → Int} (h : IdsR w base A n F) (hg : ∀ i, i < n → F i = G i) : IdsR w base A n G := by
  rcases h with h | ⟨g, h1, h2, h3, h4⟩
  · exact .inl h
  · exact .inr ⟨g, h1, h2, h3, fun i hi => by rw [← hg i hi]; exact h4 i hi⟩
theorem IdsR.store {w : World} {base n g : Nat} {F : Nat → Int} (h : IdsR w base (some ⟨g, 0, none⟩) n F) (k : Nat) (hk : k < n) (v : Int) : IdsR (w.setCell ⟨g, k * 9 + 8, none⟩ (.int .i64 v)) base (some ⟨g, 0, none⟩) n (fun j => if j = k then v else F j) := by
  rcases h with h | ⟨g', h1, h2, h3, h4⟩
  · exact .inl h
  · injection h1 with h1
    injection h1 with h1
    subst h1
    refine .inr ⟨g, rfl, h2, by simpa using h3, fun i hi => ⟨?_, by rw [World.frozen?_setCell]; exact (h4 i hi).2⟩⟩
    by_cases e : i = k
    · subst e
      simp only [if_true]
      exact World.cell?_setCell_same _ _ _ (h4 i hi).1
    · simp only [e, if_false]
      rw [set_other w g (k * 9 + 8) (i * 9 + 8) _ (by omega)]
      exact (h4 i hi).1
set_option maxRecDepth 100000 in
set_option maxHeartbeats 4000000 in
theorem none_any (w : World) (q0 : QOp) (A : Option Addr) (n cap : Nat) (qs : List QOp) (hn : qs.length = n) (hc : n ≤ cap) (hm : cap ≤ 9223372036854775807) (hok : ∀ q ∈ qs, q.ok) (hr : OpsR w A qs) : Calls Try.prog 7 #[.agg q0.cells.toArray, .slice A n cap] w (RetX (.bool true) w) := by
  have HN := Lib.hid hn
  have HOK := Lib.hid hok
  have HR := Lib.hid hr
  have k1 : Hid (∀ W, Calls Try.prog 35 _ W _) := Lib.hid fun W => qx_GetNil q0.p W
  have k2 : Hid (∀ W, Calls Try.prog 31 _ W _) := Lib.hid fun W => qx_PutNil q0.p 1 W
  have k3 : Hid (∀ W, Calls Try.prog 33 _ W _) := Lib.hid fun W => qx_RemoveNil q0.p W
  obtain ⟨mm, hmm⟩ : ∃ mm : Nat, mm = min n 10 := ⟨_, rfl⟩
  have hmin : min (n : Int) 10 = (mm : Int) := by omega
  have hmn : mm ≤ n := by omega
  have hm10 : mm ≤ 10 := by omega
  have HMM := Lib.hid hmm
  clear hn hok hr hmm
  unfold ptV at k1 k2 k3
  unfold QOp.cells
  have B0 : Hid (Below w.heap.size w (w.alloc (.cells #[.int .i64 q0.kind, .int .u8 q0.like, .int .u64 (hi q0.p.a), .int .u64 (lo q0.p.a), .int .u64 (hi q0.p.b), .int .u64 (lo q0.p.b), .int .u64 (hi q0.p.c), .int .u64 (lo q0.p.c), .int .u64 (hi q0.p.d), .int .u64 (lo q0.p.d), .int .i64 q0.id] 73))) := Lib.hid ((Below.refl _ w).alloc (Nat.le_refl _) _)
  have X0 : Hid ((w.alloc (.cells #[.int .i64 q0.kind, .int .u8 q0.like, .int .u64 (hi q0.p.a), .int .u64 (lo q0.p.a), .int .u64 (hi q0.p.b), .int .u64 (lo q0.p.b), .int .u64 (hi q0.p.c), .int .u64 (lo q0.p.c), .int .u64 (hi q0.p.d), .int .u64 (lo q0.p.d), .int .i64 q0.id] 73)).heap[w.heap.size]? = some (.cells #[.int .i64 q0.kind, .int .u8 q0.like, .int .u64 (hi q0.p.a), .int .u64 (lo q0.p.a), .int .u64 (hi q0.p.b), .int .u64 (lo q0.p.b), .int .u64 (hi q0.p.c), .int .u64 (lo q0.p.c), .int .u64 (hi q0.p.d), .int .u64 (lo q0.p.d), .int .i64 q0.id] 73 (0, 0))) := Lib.hid (heap_alloc_new w _)
  have L0 : Hid (w.heap.size < (w.alloc (.cells #[.int .i64 q0.kind, .int .u8 q0.like, .int .u64 (hi q0.p.a), .int .u64 (lo q0.p.a), .int .u64 (hi q0.p.b), .int .u64 (lo q0.p.b), .int .u64 (hi q0.p.c), .int .u64 (lo q0.p.c), .int .u64 (hi q0.p.d), .int .u64 (lo q0.p.d), .int .i64 q0.id] 73)).heap.size) := Lib.hid (by simp)
  go_enter Try.func7, Try.ntmps7
  go_wp2_with (first
    | ((with_reducible refine (k1.out _).mono ?_); rintro e w1 ⟨rfl, hb1⟩; have B1 := Lib.hid (B0.out.trans (hb1.mono B0.out.size)); have X1 := Lib.hid ((hb1.block _ L0.out).trans X0.out); have L1 := Lib.hid (Nat.lt_of_lt_of_le L0.out hb1.size); clear hb1; have x1_2 := blk_cellQ X1.out 2 _ rfl; have x1_3 := blk_cellQ X1.out 3 _ rfl; have x1_4 := blk_cellQ X1.out 4 _ rfl; have x1_5 := blk_cellQ X1.out 5 _ rfl; have x1_6 := blk_cellQ X1.out 6 _ rfl; have x1_7 := blk_cellQ X1.out 7 _ rfl; have x1_8 := blk_cellQ X1.out 8 _ rfl; have x1_9 := blk_cellQ X1.out 9 _ rfl)
    | ((with_reducible refine (k2.out _).mono ?_); rintro e w2 ⟨rfl, hb2⟩; have B2 := Lib.hid (B1.out.trans (hb2.mono B1.out.size)); have X2 := Lib.hid ((hb2.block _ L1.out).trans X1.out); have L2 := Lib.hid (Nat.lt_of_lt_of_le L1.out hb2.size); clear hb2; have x2_2 := blk_cellQ X2.out 2 _ rfl; have x2_3 := blk_cellQ X2.out 3 _ rfl; have x2_4 := blk_cellQ X2.out 4 _ rfl; have x2_5 := blk_cellQ X2.out 5 _ rfl; have x2_6 := blk_cellQ X2.out 6 _ rfl; have x2_7 := blk_cellQ X2.out 7 _ rfl; have x2_8 := blk_cellQ X2.out 8 _ rfl; have x2_9 := blk_cellQ X2.out 9 _ rfl)
    | ((with_reducible refine (k3.out _).mono ?_); rintro e w3 ⟨rfl, hb3⟩; have B3 := Lib.hid (B2.out.trans (hb3.mono B2.out.size)); have X3 := Lib.hid ((hb3.block _ L2.out).trans X2.out); have L3 := Lib.hid (Nat.lt_of_lt_of_le L2.out hb3.size); clear hb3; have x3_2 := blk_cellQ X3.out 2 _ rfl; have x3_3 := blk_cellQ X3.out 3 _ rfl; have x3_4 := blk_cellQ X3.out 4 _ rfl; have x3_5 := blk_cellQ X3.out 5 _ rfl; have x3_6 := blk_cellQ X3.out 6 _ rfl; have x3_7 := blk_cellQ X3.out 7 _ rfl; have x3_8 := blk_cellQ X3.out 8 _ rfl; have x3_9 := blk_cellQ X3.out 9 _ rfl)
    | ((with_reducible refine (qx_LenNil _).mono ?_); rintro e w4 ⟨rfl, rfl⟩)
    | ((with_reducible refine (qx_AllNil _).mono ?_); rintro e w5 ⟨rfl, rfl⟩)
    | ((with_reducible refine (newStep B3.out).mono ?_); rintro e w6 ⟨rfl, hI6⟩))
  have HI6 := Lib.hid hI6
  clear hI6
  go_loopw [53] (fun i W => ∃ k : Nat, k ≤ mm ∧ i = .int .i64 k ∧ IH w W (w5.heap.size) k (stF (qs.take k))) (fun i _ => mm - (intOf i).toNat)
  case atStart => exact ⟨0, Nat.zero_le _, rfl, by rw [List.take_zero]; exact HI6.out⟩
  case round =>
    obtain ⟨k, hk, rfl, hI⟩ := hrel
    have HI := Lib.hid hI
    clear hI
    by_cases hlt : k < mm
    · have hk1 : (k : Int) < (mm : Int) := by omega
      have hk2 : (k : Int) < (cap : Int) := by omega
      have hk0 : 0 ≤ (k : Int) := by omega
      obtain ⟨q, hq⟩ : ∃ q, qs[k]? = some q := ⟨_, List.getElem?_eq_getElem (by rw [HN.out]; omega)⟩
      obtain ⟨hok1, hok2, hok3⟩ := HOK.out q (List.mem_of_getElem? hq)
      obtain ⟨g, o, rfl, hg, hcell⟩ := (HR.out.below HI.out.b).resolve_left (fun e => by rw [e] at hq; simp at hq)
      have hc := hcell k q hq
      have p0 : wr.cell? ⟨g, o + k * 11, none⟩ = some (.int .i64 q.kind) := hc 0 (by omega)
      have p1 : wr.cell? ⟨g, o + k * 11 + 1, none⟩ = some (.int .u8 q.like) := hc 1 (by omega)
      have p2 : wr.cell? ⟨g, o + k * 11 + 2, none⟩ = some (.int .u64 (hi q.p.a)) := hc 2 (by omega)
      have p3 : wr.cell? ⟨g, o + k * 11 + 3, none⟩ = some (.int .u64 (lo q.p.a)) := hc 3 (by omega)
      have p4 : wr.cell? ⟨g, o + k * 11 + 4, none⟩ = some (.int .u64 (hi q.p.b)) := hc 4 (by omega)
      have p5 : wr.cell? ⟨g, o + k * 11 + 5, none⟩ = some (.int .u64 (lo q.p.b)) := hc 5 (by omega)
      have p6 : wr.cell? ⟨g, o + k * 11 + 6, none⟩ = some (.int .u64 (hi q.p.c)) := hc 6 (by omega)
      have p7 : wr.cell? ⟨g, o + k * 11 + 7, none⟩ = some (.int .u64 (lo q.p.c)) := hc 7 (by omega)
      have p8 : wr.cell? ⟨g, o + k * 11 + 8, none⟩ = some (.int .u64 (hi q.p.d)) := hc 8 (by omega)
      have p9 : wr.cell? ⟨g, o + k * 11 + 9, none⟩ = some (.int .u64 (lo q.p.d)) := hc 9 (by omega)
      have p10 : wr.cell? ⟨g, o + k * 11 + 10, none⟩ = some (.int .i64 q.id) := hc 10 (by omega)
      have HQ := Lib.hid hq
      have HOK2 := Lib.hid hok2
      have HOK3 := Lib.hid hok3
      clear hc hcell hok1 hok2 hok3 hq
      have X7 : Hid ((wr.alloc (.cells #[.int .i64 q.kind, .int .u8 q.like, .int .u64 (hi q.p.a), .int .u64 (lo q.p.a), .int .u64 (hi q.p.b), .int .u64 (lo q.p.b), .int .u64 (hi q.p.c), .int .u64 (lo q.p.c), .int .u64 (hi q.p.d), .int .u64 (lo q.p.d), .int .i64 q.id] 73)).drew.heap[wr.heap.size]? = some (.cells #[.int .i64 q.kind, .int .u8 q.like, .int .u64 (hi q.p.a), .int .u64 (lo q.p.a), .int .u64 (hi q.p.b), .int .u64 (lo q.p.b), .int .u64 (hi q.p.c), .int .u64 (lo q.p.c), .int .u64 (hi q.p.d), .int .u64 (lo q.p.d), .int .i64 q.id] 73 (0, 0))) := Lib.hid (heap_alloc_new wr _)
      have I7 := Lib.hid (HI.out.below ((Below.refl _ wr).alloc (Nat.le_refl _) (.cells #[.int .i64 q.kind, .int .u8 q.like, .int .u64 (hi q.p.a), .int .u64 (lo q.p.a), .int .u64 (hi q.p.b), .int .u64 (lo q.p.b), .int .u64 (hi q.p.c), .int .u64 (lo q.p.c), .int .u64 (hi q.p.d), .int .u64 (lo q.p.d), .int .i64 q.id] 73)).drew)
      go_wp2_with fail
      go_region_with (first
        | (go_at_call 30; refine (qo_point q.kind q.id q.like HOK2.out q.p _).mono ?_; rintro e w8 ⟨rfl, hb8⟩; have X8 := (hb8.block _ (by simp)).trans X7.out; have x8 := blk_cellQ X8 10 _ rfl; have I8 := Lib.hid (I7.out.below hb8); clear hb8 X8)
        | (go_at_call 31; refine (putStep I8.out (by omega) _ _ HOK3.out).mono ?_; rintro e w9 ⟨rfl, hI9⟩; have I9 := Lib.hid hI9; clear hI9))
      all_goals go_wp2_with fail
      all_goals go_roundw
      all_goals first
        | (show _ ∨ _; fail)
        | (case rel => exact ⟨k + 1, by omega, by simp, by rw [List.take_succ_eq_append_getElem (by rw [HN.out]; omega), stF_snoc, (List.getElem?_eq_some_iff.1 HQ.out).2]; exact I9.out⟩)
        | (case measure => simp [intOf]; omega)
    · obtain rfl : k = mm := by omega
      obtain ⟨wA, hwA⟩ : ∃ x, x = wr := ⟨_, rfl⟩
      subst hwA
      have hpl := qx_len HI.out
      generalize stF (List.take k qs) = s at HI hpl
      obtain ⟨np, hnp⟩ : ∃ np, np = s.1.length := ⟨_, rfl⟩
      obtain ⟨F, hF⟩ : ∃ F : Nat → Int, F = fun i => s.2 (s.1.getD i pt0) := ⟨_, rfl⟩
      have hAll : Hid (∀ W, Below wA.heap.size wA W → Calls Try.prog 39 #[.pointer (some ⟨w5.heap.size, 0, none⟩)] W fun e w' => ∃ A1 c1, e = .returned (.slice A1 np c1) ∧ IdsR w' W.heap.size A1 np F ∧ np ≤ c1 ∧ Below W.heap.size W w') := Lib.hid fun W hW => (allStep (HI.out.below hW) (by omega)).mono fun e w' ⟨A1, c1, h1, h2, h3⟩ => by
        obtain ⟨h4, h5⟩ := ids_of_own h2
        rw [hnp, hF]
        exact ⟨A1, c1, h1, h4, h5, h3⟩
      have hnp2 : np ≤ 10 := by omega
      have HBA := Lib.hid HI.out.b
      clear hpl hnp hF
      go_wp2_with ((with_reducible refine (hAll.out _ (Below.refl _ _)).mono ?_); rintro e w10 ⟨A1, c1, rfl, hi1, hc1, hb1⟩; have HB1 := Lib.hid hb1; have HD1 := Lib.hid hi1; clear hb1 hi1)
      go_loopw [68] (fun i W => ∃ k2 : Nat, k2 ≤ np ∧ i = .int .i64 k2 ∧ Below wA.heap.size wA W ∧ IdsR W wA.heap.size A1 np (fun j => if j < k2 then wrap64 (F j + 1) else F j)) (fun i _ => np - (intOf i).toNat)
      case atStart => exact ⟨0, Nat.zero_le _, rfl, HB1.out, by simpa using HD1.out⟩
      case round =>
        obtain ⟨k2, hk2, rfl, hbw, hid⟩ := hrel
        have HBW := Lib.hid hbw
        have HID := Lib.hid hid
        clear hbw hid
        by_cases hlt2 : k2 < np
        · obtain ⟨g, rfl, hg1, hg2, hcell⟩ := HID.out.resolve_left (by omega)
          obtain ⟨hx, hf⟩ := hcell k2 hlt2
          simp only [Nat.lt_irrefl, if_false] at hx
          have j1 : (k2 : Int) < (np : Int) := by omega
          have j2 : (k2 : Int) < (c1 : Int) := by omega
          have j0 : 0 ≤ (k2 : Int) := by omega
          have HC := Lib.hid hcell
          clear hcell
          go_wp2_with fail
          go_roundw
          case rel => exact ⟨k2 + 1, by omega, by simp, HBW.out.setCell hg1 _, (HID.out.store k2 hlt2 _).congr (fun j hj => by
            by_cases e : j = k2
            · subst e; simp only [if_true]; rw [if_pos (Nat.lt_succ_self _)]
            · simp only [e, if_false]
              by_cases h5 : j < k2
              · rw [if_pos h5, if_pos (by omega)]
              · rw [if_neg h5, if_neg (by omega)])⟩
          case measure => simp [intOf]; omega
        · obtain rfl : k2 = np := by omega
          obtain ⟨wB, hwB⟩ : ∃ x, x = wr := ⟨_, rfl⟩
          subst hwB
          go_wp2_with ((with_reducible refine (hAll.out _ HBW.out).mono ?_); rintro e w11 ⟨A2, c2, rfl, hi2, hc2, hb2⟩; have HB2 := Lib.hid (HBW.out.trans (hb2.mono HBW.out.size)); have HD2 := Lib.hid hi2; have HD3 := Lib.hid (HID.out.below hb2); clear hb2 hi2)
          go_loopw [89] (fun i W => ∃ k3 : Nat, k3 ≤ k2 ∧ i = .int .i64 k3 ∧ Below w11.heap.size w11 W) (fun i _ => k2 - (intOf i).toNat)
          case atStart => exact ⟨0, Nat.zero_le _, rfl, Below.refl _ _⟩
          case round =>
            obtain ⟨k3, hk3, rfl, hbw3⟩ := hrel
            have HBW3 := Lib.hid hbw3
            clear hbw3
            by_cases hlt3 : k3 < k2
            · obtain ⟨g1, rfl, _, _, hcell1⟩ := (HD3.out.below HBW3.out).resolve_left (by omega)
              obtain ⟨g2, rfl, _, _, hcell2⟩ := (HD2.out.below HBW3.out).resolve_left (by omega)
              obtain ⟨hx1, _⟩ := hcell1 k3 hlt3
              obtain ⟨hx2, _⟩ := hcell2 k3 hlt3
              rw [show (fun j => if j < k2 then wrap64 (F j + 1) else F j) k3 = wrap64 (F k3 + 1) from if_pos hlt3] at hx1
              have j1 : (k3 : Int) < (k2 : Int) := by omega
              have j2 : (k3 : Int) < (c1 : Int) := by omega
              have j3 : (k3 : Int) < (c2 : Int) := by omega
              have j0 : 0 ≤ (k3 : Int) := by omega
              clear hcell1 hcell2
              go_wp2_with fail
              go_quiet (fail)
              go_wp2_with fail
              go_roundw
              case rel => exact ⟨k3 + 1, by omega, by simp, ⟨HBW3.out.os, HBW3.out.tape, HBW3.out.output, HBW3.out.size, HBW3.out.block⟩⟩
              case measure => simp [intOf]; omega
            · obtain rfl : k3 = k2 := by omega
              go_wp2_with ((with_reducible refine (qb_begun _).mono ?_); rintro e w12 ⟨rfl, hb12⟩)
              go_ret
              have h1 := HBA.out.trans (HB2.out.mono HBA.out.size)
              have h2 := h1.trans (HBW3.out.mono h1.size)
              exact ⟨rfl, h2.trans (hb12.mono h2.size)⟩
end Go.Proofs.Ytjdecoiciecfpaa
