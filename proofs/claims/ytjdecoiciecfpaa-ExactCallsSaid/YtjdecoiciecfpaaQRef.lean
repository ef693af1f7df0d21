/- Layer 11: the reference's index: compare, place. -/
import Derived.Test.YtjdecoiciecfpaaQOrdP
import Derived.Test.YtjdecoiciecfpaaQEq
import Derived.Test.YtjdecoiciecfpaaQApp
import Derived.Test.YtjdecoiciecfpaaCmp
namespace Go.Proofs.Ytjdecoiciecfpaa
open Go.RowKit Go.Maps Go.Sort
set_option maxRecDepth 100000 in
set_option maxHeartbeats 2000000 in
theorem qr_compare (p q : Pt) (w : World) : Calls Try.prog 94 #[ptV p, ptV q] w (RetX (.int .i64 (cmpP p q)) w) := by
  obtain ⟨w2, hw2⟩ : ∃ w2, w2 = ((w.alloc (.cells p.cells.toArray 29)).alloc (.cells q.cells.toArray 29)) := ⟨_, rfl⟩
  have b0 : w2.heap[w.heap.size]? = some (.cells p.cells.toArray 29 (0, 0)) := by rw [hw2, heap_alloc_old _ _ (by simp), heap_alloc_new]
  have b1 : w2.heap[w.heap.size + 1]? = some (.cells q.cells.toArray 29 (0, 0)) := by
    rw [hw2]
    have := heap_alloc_new (w.alloc (.cells p.cells.toArray 29)) (.cells q.cells.toArray 29)
    simpa using this
  have hsz : w2.heap.size = w.heap.size + 2 := by rw [hw2]; simp
  have HP : Hid (PtAt w2 w.heap.size p) := Lib.hid ⟨by omega, fun k hk => by
    obtain ⟨h1, h2⟩ := p.cells_at k hk
    exact ⟨blk_cellQ b0 _ _ (by simpa using h1), blk_cellQ b0 _ _ (by simpa using h2)⟩⟩
  have HQ : Hid (PtAt w2 (w.heap.size + 1) q) := Lib.hid ⟨by omega, fun k hk => by
    obtain ⟨h1, h2⟩ := q.cells_at k hk
    exact ⟨blk_cellQ b1 _ _ (by simpa using h1), blk_cellQ b1 _ _ (by simpa using h2)⟩⟩
  have HB : Hid (Below w.heap.size w w2) := Lib.hid (by rw [hw2]; exact ((Below.refl _ w).alloc (Nat.le_refl _) _).alloc (by simp) _)
  have HW := Lib.hid hw2
  clear b0 b1 hw2
  unfold ptV
  go_enter Try.func94, Try.ntmps94
  go_wp2_with fail
  go_loopw [7] (fun i W => ∃ k : Nat, k ≤ 4 ∧ i = .int .i64 k ∧ Below w2.heap.size w2 W ∧ cmpP p q = cmpF p q (4 - k) k) (fun i _ => 4 - (intOf i).toNat)
  case atStart => exact ⟨0, by omega, rfl, by have := HW.out; unfold Pt.cells at this; rw [← this]; exact Below.refl _ _, rfl⟩
  case round =>
    obtain ⟨k, hk, rfl, hg, hc⟩ := hrel
    by_cases hlt : k < 4
    · have HC := Lib.hid hc
      obtain ⟨l1, g1⟩ := HP.out.below hg
      obtain ⟨l2, g2⟩ := HQ.out.below hg
      obtain ⟨p0, p1⟩ := g1 k hlt
      obtain ⟨q0, q1⟩ := g2 k hlt
      have k1 : (k : Int) < 4 := by omega
      have k0 : 0 ≤ (k : Int) := by omega
      have HG := Lib.hid hg
      have hv := fun W => rcompare_any (p.at k) (q.at k) (p.at_lt k) (q.at_lt k) W
      generalize hz : cmp (p.at k) (q.at k) = z at hv
      have HZ := Lib.hid hz
      clear hg hc g1 g2 hz hsz
      go_wp2_with fail
      go_region_with (go_at_call 47; refine (hv _).mono ?_; rintro e w3 ⟨rfl, hb3⟩; have HG3 := Lib.hid ((HG.out.trans (Below.refl _ _).drew).trans (hb3.mono HG.out.size)); clear hb3)
      all_goals
        have e4 : 4 - k = (4 - (k + 1)) + 1 := by omega
        have HC2 : Hid (cmpP p q = if z = 0 then cmpF p q (4 - (k + 1)) (k + 1) else z) := Lib.hid (by rw [HC.out, e4, cmpF, HZ.out])
        clear e4 hv p0 p1 q0 q1
        by_cases hz : z = 0
        · subst hz
          go_wp2_with fail
          go_roundw
          case rel => exact ⟨k + 1, by omega, by simp, HG3.out, by have := HC2.out; simpa using this⟩
          case measure => simp [intOf]; omega
        · have hz2 : (z == 0) = false := by simpa using hz
          have HZ3 := Lib.hid hz
          go_wp2_with fail
          go_ret
          exact ⟨by rw [HC2.out, if_neg HZ3.out]; rfl, HB.out.trans (HG3.out.mono HB.out.size)⟩
    · obtain rfl : k = 4 := by omega
      go_wp2_with fail
      go_ret
      exact ⟨by rw [hc]; rfl, HB.out.trans (hg.mono HB.out.size)⟩
/-- the reference's index: a box with an ascending row of pairs -/
structure RI (w : World) (Y : Nat) (A : Option Addr) (n cap : Nat) (pts : List Pt) (f : Pt → Int) : Prop where
  asc : Asc pts
  len : pts.length = n
  room : n ≤ cap
  lt : Y < w.heap.size
  froz : w.frozen? ⟨Y, 0, none⟩ = false
  c : w.cell? ⟨Y, 0, none⟩ = some (.slice A n cap)
  nil : (A = none ∧ cap = 0) ∨ ∃ g, A = some ⟨g, 0, none⟩
  row : PairsR w A pts f
theorem RI.below {w w' : World} {Y n cap : Nat} {A : Option Addr} {pts : List Pt} {f : Pt → Int} (h : RI w Y A n cap pts f) (hb : Below w.heap.size w w') : RI w' Y A n cap pts f :=
  ⟨h.asc, h.len, h.room, Nat.lt_of_lt_of_le h.lt hb.size, by rw [World.frozen?_of_block (a := ⟨Y, 0, none⟩) (hb.block Y h.lt)]; exact h.froz, by rw [hb.cell (p := ⟨Y, 0, none⟩) h.lt]; exact h.c, h.nil, h.row.below hb⟩
theorem place_in {pts : List Pt} {p q : Pt} {k : Nat} (ha : Asc pts) (hk : k ≤ pts.length) (hlow : ∀ j x, j < k → pts[j]? = some x → x.num < p.num) (hq : pts[k]? = some q) (hs : ¬ q.num < p.num) : k = plc p pts ∧ decide (q = p) = decide (p ∈ pts) := by
  have e := plc_eq p pts k hk hlow (fun x hx => by rw [hq] at hx; rw [← Option.some.inj hx]; exact hs)
  refine ⟨e, ?_⟩
  have hm := plc_mem p pts ha
  rw [← e, hq] at hm
  by_cases h : q = p
  · rw [decide_eq_true h, decide_eq_true (hm.1 (by rw [h]))]
  · rw [decide_eq_false h, decide_eq_false fun h2 => h (Option.some.inj (hm.2 h2))]
theorem place_out {pts : List Pt} {p : Pt} (ha : Asc pts) (hlow : ∀ j x, j < pts.length → pts[j]? = some x → x.num < p.num) : pts.length = plc p pts ∧ decide (p ∈ pts) = false := by
  have e := plc_eq p pts pts.length (Nat.le_refl _) hlow (fun x hx => by simp at hx)
  refine ⟨e, ?_⟩
  have hm := plc_mem p pts ha
  rw [← e] at hm
  exact decide_eq_false fun h => by have := hm.2 h; simp at this
def RetPlace (pts : List Pt) (p : Pt) (w : World) (e : Ending) (w' : World) : Prop := e = .returned (.tuple #[.int .i64 (plc p pts), .bool (decide (p ∈ pts))]) ∧ Below w.heap.size w w'
set_option maxRecDepth 100000 in
set_option maxHeartbeats 4000000 in
theorem qr_place {w : World} {Y n cap : Nat} {A : Option Addr} {pts : List Pt} {f : Pt → Int} (h : RI w Y A n cap pts f) (hn : n ≤ 100000) (p : Pt) : Calls Try.prog 75 #[.pointer (some ⟨Y, 0, none⟩), ptV p] w (RetPlace pts p w) := by
  have HR := Lib.hid h
  have HB0 : Hid (Below w.heap.size w (w.alloc (.cells #[.int .u64 (hi p.a), .int .u64 (lo p.a), .int .u64 (hi p.b), .int .u64 (lo p.b), .int .u64 (hi p.c), .int .u64 (lo p.c), .int .u64 (hi p.d), .int .u64 (lo p.d)] 29))) := Lib.hid ((Below.refl _ w).alloc (Nat.le_refl _) _)
  have HX0 : Hid ((w.alloc (.cells #[.int .u64 (hi p.a), .int .u64 (lo p.a), .int .u64 (hi p.b), .int .u64 (lo p.b), .int .u64 (hi p.c), .int .u64 (lo p.c), .int .u64 (hi p.d), .int .u64 (lo p.d)] 29)).heap[w.heap.size]? = some (.cells #[.int .u64 (hi p.a), .int .u64 (lo p.a), .int .u64 (hi p.b), .int .u64 (lo p.b), .int .u64 (hi p.c), .int .u64 (lo p.c), .int .u64 (hi p.d), .int .u64 (lo p.d)] 29 (0, 0))) := Lib.hid (heap_alloc_new w _)
  obtain ⟨w2, hw2⟩ : ∃ w2, w2 = w.alloc (.cells #[.int .u64 (hi p.a), .int .u64 (lo p.a), .int .u64 (hi p.b), .int .u64 (lo p.b), .int .u64 (hi p.c), .int .u64 (lo p.c), .int .u64 (hi p.d), .int .u64 (lo p.d)] 29) := ⟨_, rfl⟩
  have HW := Lib.hid hw2
  rw [← hw2] at HB0 HX0
  have hsz : w.heap.size < w2.heap.size := by rw [hw2]; simp
  have HSZ := Lib.hid hsz
  have HR2 := Lib.hid (h.below HB0.out)
  clear h hw2 hsz
  unfold ptV
  go_enter Try.func75, Try.ntmps75
  go_wp2_with fail
  rw [← HW.out]
  go_loopw [6] (fun i W => ∃ k : Nat, k ≤ n ∧ i = .int .i64 k ∧ Below w2.heap.size w2 W ∧ ∀ j x, j < k → pts[j]? = some x → x.num < p.num) (fun i _ => n - (intOf i).toNat)
  case atStart => exact ⟨0, by omega, rfl, Below.refl _ _, fun j x hj => by omega⟩
  case round =>
    obtain ⟨k, hk, rfl, hb, hlow⟩ := hrel
    have HB := Lib.hid hb
    have HLOW := Lib.hid hlow
    have HRW := Lib.hid (HR2.out.below hb)
    have hc := HRW.out.c
    have hX := (hb.block _ HSZ.out).trans HX0.out
    have x0 := blk_cellQ hX 0 _ rfl
    have x1 := blk_cellQ hX 1 _ rfl
    have x2 := blk_cellQ hX 2 _ rfl
    have x3 := blk_cellQ hX 3 _ rfl
    have x4 := blk_cellQ hX 4 _ rfl
    have x5 := blk_cellQ hX 5 _ rfl
    have x6 := blk_cellQ hX 6 _ rfl
    have x7 := blk_cellQ hX 7 _ rfl
    have hcap := HRW.out.room
    have k0 : 0 ≤ (k : Int) := by omega
    clear hb hlow hX
    by_cases hlt : k < n
    · have k1 : (k : Int) < (n : Int) := by omega
      have k2 : (k : Int) < (cap : Int) := by omega
      obtain ⟨q, hq⟩ : ∃ q, pts[k]? = some q := ⟨_, List.getElem?_eq_getElem (by rw [HRW.out.len]; exact hlt)⟩
      obtain ⟨g, rfl, hgl, hcell⟩ := HRW.out.row.resolve_left (fun e => by rw [e] at hq; simp at hq)
      have h9 := hcell k q hq
      have p0 : wr.cell? ⟨g, k * 9, none⟩ = some (.int .u64 (hi q.a)) := h9 0 (by omega)
      have p1 : wr.cell? ⟨g, k * 9 + 1, none⟩ = some (.int .u64 (lo q.a)) := h9 1 (by omega)
      have p2 : wr.cell? ⟨g, k * 9 + 2, none⟩ = some (.int .u64 (hi q.b)) := h9 2 (by omega)
      have p3 : wr.cell? ⟨g, k * 9 + 3, none⟩ = some (.int .u64 (lo q.b)) := h9 3 (by omega)
      have p4 : wr.cell? ⟨g, k * 9 + 4, none⟩ = some (.int .u64 (hi q.c)) := h9 4 (by omega)
      have p5 : wr.cell? ⟨g, k * 9 + 5, none⟩ = some (.int .u64 (lo q.c)) := h9 5 (by omega)
      have p6 : wr.cell? ⟨g, k * 9 + 6, none⟩ = some (.int .u64 (hi q.d)) := h9 6 (by omega)
      have p7 : wr.cell? ⟨g, k * 9 + 7, none⟩ = some (.int .u64 (lo q.d)) := h9 7 (by omega)
      have hcmp := fun W => qr_compare q p W
      have HQ := Lib.hid hq
      clear h9 hcell hq
      obtain ⟨z, hz⟩ : ∃ z, z = cmpP q p := ⟨_, rfl⟩
      rw [← hz] at hcmp
      have HZ : Hid (z < 0 ↔ q.num < p.num) := Lib.hid (by rw [hz]; exact cmpP_lt q p)
      clear hz
      unfold ptV at hcmp
      go_wp2_with fail
      go_region_with (go_at_call 94; refine (hcmp _).mono ?_; rintro e w3 ⟨rfl, hb3⟩; have HB3 := Lib.hid ((HB.out.trans (Below.refl _ _).drew).trans (hb3.mono HB.out.size)); clear hb3)
      all_goals
        by_cases hz : z < 0
        · have HZ3 := Lib.hid hz
          go_wp2_with fail
          go_roundw
          case rel =>
            refine ⟨k + 1, by omega, by simp, HB3.out, fun j x hj hx => ?_⟩
            rcases Nat.lt_or_ge j k with h5 | h5
            · exact HLOW.out j x h5 hx
            · obtain rfl : j = k := by omega
              rw [HQ.out] at hx
              rw [← Option.some.inj hx]
              exact HZ.out.1 HZ3.out
          case measure => simp [intOf]; omega
        · have HZ3 := Lib.hid hz
          have HR3 := HR2.out.below HB3.out
          have hc3 := HR3.c
          obtain ⟨g3, e3, hgl3, hcell3⟩ := HR3.row.resolve_left (fun e => by have := HQ.out; rw [e] at this; simp at this)
          injection e3 with e3
          injection e3 with e3
          subst e3
          have h9 := hcell3 k q HQ.out
          have r0 : w3.cell? ⟨g, k * 9, none⟩ = some (.int .u64 (hi q.a)) := h9 0 (by omega)
          have r1 : w3.cell? ⟨g, k * 9 + 1, none⟩ = some (.int .u64 (lo q.a)) := h9 1 (by omega)
          have r2 : w3.cell? ⟨g, k * 9 + 2, none⟩ = some (.int .u64 (hi q.b)) := h9 2 (by omega)
          have r3 : w3.cell? ⟨g, k * 9 + 3, none⟩ = some (.int .u64 (lo q.b)) := h9 3 (by omega)
          have r4 : w3.cell? ⟨g, k * 9 + 4, none⟩ = some (.int .u64 (hi q.c)) := h9 4 (by omega)
          have r5 : w3.cell? ⟨g, k * 9 + 5, none⟩ = some (.int .u64 (lo q.c)) := h9 5 (by omega)
          have r6 : w3.cell? ⟨g, k * 9 + 6, none⟩ = some (.int .u64 (hi q.d)) := h9 6 (by omega)
          have r7 : w3.cell? ⟨g, k * 9 + 7, none⟩ = some (.int .u64 (lo q.d)) := h9 7 (by omega)
          have hX3 := (HB3.out.block _ HSZ.out).trans HX0.out
          have y0 := blk_cellQ hX3 0 _ rfl; have y1 := blk_cellQ hX3 1 _ rfl; have y2 := blk_cellQ hX3 2 _ rfl; have y3 := blk_cellQ hX3 3 _ rfl; have y4 := blk_cellQ hX3 4 _ rfl; have y5 := blk_cellQ hX3 5 _ rfl; have y6 := blk_cellQ hX3 6 _ rfl; have y7 := blk_cellQ hX3 7 _ rfl
          have hE := fun W => eqI_pt q p W
          have hg : Try.prog.eqGuardType Try.prog.depth 29 = false := by kernel_rfl
          obtain ⟨b, hb⟩ : ∃ b, b = decide (q = p) := ⟨_, rfl⟩
          rw [← hb] at hE
          have HBB := Lib.hid hb
          clear hb hX3 h9 hcell3 HR3
          unfold ptV at hE
          go_wp2_with fail
          go_quiet (fail)
          go_wp2_with fail
          refine bodyPost_ret (v := .tuple #[.int .i64 k, .bool b]) (by simp [results, Try.results75, go_sem]) rfl ?_
          obtain ⟨h1, h2⟩ := place_in HR.out.asc (by rw [HR.out.len]; omega) HLOW.out HQ.out (fun h => by have h1 := HZ.out.2 h; have h2 := HZ3.out; omega)
          refine ⟨by rw [HBB.out, h2, ← h1], ?_⟩
          have h3 := HB0.out.trans (HB3.out.mono HB0.out.size)
          exact ⟨h3.os, h3.tape, h3.output, h3.size, h3.block⟩
    · have k1 : ¬ (k : Int) < (n : Int) := by omega
      have k1d : decide ((k : Int) < (n : Int)) = false := by simpa using k1
      have hg : Try.prog.eqGuardType Try.prog.depth 29 = false := by kernel_rfl
      obtain rfl : n = k := by omega
      go_wp2_with fail
      go_quiet (fail)
      go_wp2_with fail
      go_quiet (fail)
      go_wp2_with fail
      refine bodyPost_ret (v := .tuple #[.int .i64 n, .bool false]) (by simp [results, Try.results75, go_sem]) rfl ?_
      obtain ⟨h1, h2⟩ := place_out HR.out.asc (fun j x hj hx => HLOW.out j x (by rw [HR.out.len] at hj; exact hj) hx)
      refine ⟨by rw [h2, ← h1, HR.out.len], ?_⟩
      have h3 := HB0.out.trans (HB.out.mono HB0.out.size)
      exact ⟨h3.os, h3.tape, h3.output, h3.size, h3.block⟩
end Go.Proofs.Ytjdecoiciecfpaa
