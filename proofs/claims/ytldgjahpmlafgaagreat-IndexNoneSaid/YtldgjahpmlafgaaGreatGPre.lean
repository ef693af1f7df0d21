/- The program's tables, prefixes and winners of entries. -/
import Derived.Test.YtldgjahpmlafgaaGreatGIdx
import Derived.Test.YtldgjahpmlafgaaGreatGEnt
namespace Go.Proofs.YtldgjahpmlafgaaGreat
open Go.RowKit

def tblAt (ts : List TableD) (id : Int) : Option TableD := match ixI id (ts.map (·.id)) 0 with
  | .ofNat j => ts[j]?
  | .negSucc _ => none
def tab0 : TableD := ⟨0, [], [], [], 0, [], 0, []⟩
def tabOr (ts : List TableD) (id : Int) : TableD := (tblAt ts id).getD tab0
def preE (ts : List TableD) (e : EntryD) : Int := match ixI 2 ((tabOr ts e.table).keys.map (·.kind)) 0 with
  | .ofNat j => ((e.ms[j]?).map (·.pre)).getD 0
  | .negSucc _ => 0
theorem tbl_is (ts : List TableD) (id : Int) : (ixI id (ts.map (·.id)) 0 = -1 ∧ tblAt ts id = none) ∨ ∃ j t, ixI id (ts.map (·.id)) 0 = ((j : Nat) : Int) ∧ ts[j]? = some t ∧ t.id = id ∧ tblAt ts id = some t := by
  rcases ixI_is id (ts.map (·.id)) 0 with ⟨h, _⟩ | ⟨j, h, h2, _⟩
  · exact .inl ⟨h, by unfold tblAt; rw [h]; rfl⟩
  · rw [Nat.zero_add] at h
    rw [List.getElem?_map] at h2
    obtain ⟨t, ht, hid⟩ := Option.map_eq_some_iff.1 h2
    exact .inr ⟨j, t, h, ht, hid, by unfold tblAt; rw [h]; exact ht⟩
def RetTab (ts : List TableD) (id : Int) (B : Nat) (w : World) (en : Ending) (w' : World) : Prop := ∃ (vk va vr : Value), en = .returned (.tuple #[.agg #[.int .i64 (tabOr ts id).id, .string (strL (tabOr ts id).name), vk, va, .int .i64 (tabOr ts id).dflt, vr, .int .i64 (tabOr ts id).size, .string (strL (tabOr ts id).restr)], .bool (tblAt ts id).isSome]) ∧
  RowV 3 KeyV B w' vk (tabOr ts id).keys ∧ RowV 1 I64V B w' va (tabOr ts id).actions ∧ RowV 2 ValV B w' vr (tabOr ts id).args ∧ Below w.heap.size w w'
theorem blk_cell {w : World} {k : Nat} {cs : Array Value} {T : TypeId} {fr : Nat × Nat} (h : w.heap[k]? = some (.cells cs T fr)) (j : Nat) (v : Value) (hj : cs[j]? = some v) : w.cell? ⟨k, j, none⟩ = some v := by
  simp [World.cell?, h, hj]
theorem blk_froz {w : World} {k : Nat} {cs : Array Value} {T : TypeId} (h : w.heap[k]? = some (.cells cs T (0, 0))) (j : Nat) : w.frozen? ⟨k, j, none⟩ = false := by
  simp [World.frozen?, h]
theorem below_set8 {B k : Nat} (w : World) (hk : B ≤ k) (v0 v1 v2 v3 v4 v5 v6 v7 : Value) : Below B w ((((((((w.setCell ⟨k, 0, none⟩ v0).setCell ⟨k, 1, none⟩ v1).setCell ⟨k, 2, none⟩ v2).setCell ⟨k, 3, none⟩ v3).setCell ⟨k, 4, none⟩ v4).setCell ⟨k, 5, none⟩ v5).setCell ⟨k, 6, none⟩ v6).setCell ⟨k, 7, none⟩ v7) :=
  Below.setCell (Below.setCell (Below.setCell (Below.setCell (Below.setCell (Below.setCell (Below.setCell (Below.setCell (Below.refl B w) hk _) hk _) hk _) hk _) hk _) hk _) hk _) hk _
theorem blk_set {w : World} {k : Nat} {cs : Array Value} {T : TypeId} (hh : w.heap[k]? = some (.cells cs T (0, 0))) (j : Nat) (u : Value) : (w.setCell ⟨k, j, none⟩ u).heap[k]? = some (.cells (cs.setIfInBounds j u) T (0, 0)) := by
  obtain ⟨hl, hk⟩ := Array.getElem?_eq_some_iff.1 hh
  show (w.heap.modify k _)[k]? = _
  rw [Array.getElem?_eq_getElem (by rw [Array.size_modify]; exact hl), Array.getElem_modify_self, hk]
  rfl
theorem blk_set8 {w : World} {k : Nat} {a0 a1 a2 a3 a4 a5 a6 a7 : Value} {T : TypeId} (h : w.heap[k]? = some (.cells #[a0, a1, a2, a3, a4, a5, a6, a7] T (0, 0))) (v0 v1 v2 v3 v4 v5 v6 v7 : Value) : (((((((((w.setCell ⟨k, 0, none⟩ v0).setCell ⟨k, 1, none⟩ v1).setCell ⟨k, 2, none⟩ v2).setCell ⟨k, 3, none⟩ v3).setCell ⟨k, 4, none⟩ v4).setCell ⟨k, 5, none⟩ v5).setCell ⟨k, 6, none⟩ v6).setCell ⟨k, 7, none⟩ v7)).heap[k]? = some (.cells #[v0, v1, v2, v3, v4, v5, v6, v7] T (0, 0)) := by
  have h1 : ((w.setCell ⟨k, 0, none⟩ v0)).heap[k]? = some (.cells #[v0, a1, a2, a3, a4, a5, a6, a7] T (0, 0)) := blk_set h 0 v0
  have h2 : (((w.setCell ⟨k, 0, none⟩ v0).setCell ⟨k, 1, none⟩ v1)).heap[k]? = some (.cells #[v0, v1, a2, a3, a4, a5, a6, a7] T (0, 0)) := blk_set h1 1 v1
  have h3 : ((((w.setCell ⟨k, 0, none⟩ v0).setCell ⟨k, 1, none⟩ v1).setCell ⟨k, 2, none⟩ v2)).heap[k]? = some (.cells #[v0, v1, v2, a3, a4, a5, a6, a7] T (0, 0)) := blk_set h2 2 v2
  have h4 : (((((w.setCell ⟨k, 0, none⟩ v0).setCell ⟨k, 1, none⟩ v1).setCell ⟨k, 2, none⟩ v2).setCell ⟨k, 3, none⟩ v3)).heap[k]? = some (.cells #[v0, v1, v2, v3, a4, a5, a6, a7] T (0, 0)) := blk_set h3 3 v3
  have h5 : ((((((w.setCell ⟨k, 0, none⟩ v0).setCell ⟨k, 1, none⟩ v1).setCell ⟨k, 2, none⟩ v2).setCell ⟨k, 3, none⟩ v3).setCell ⟨k, 4, none⟩ v4)).heap[k]? = some (.cells #[v0, v1, v2, v3, v4, a5, a6, a7] T (0, 0)) := blk_set h4 4 v4
  have h6 : (((((((w.setCell ⟨k, 0, none⟩ v0).setCell ⟨k, 1, none⟩ v1).setCell ⟨k, 2, none⟩ v2).setCell ⟨k, 3, none⟩ v3).setCell ⟨k, 4, none⟩ v4).setCell ⟨k, 5, none⟩ v5)).heap[k]? = some (.cells #[v0, v1, v2, v3, v4, v5, a6, a7] T (0, 0)) := blk_set h5 5 v5
  have h7 : ((((((((w.setCell ⟨k, 0, none⟩ v0).setCell ⟨k, 1, none⟩ v1).setCell ⟨k, 2, none⟩ v2).setCell ⟨k, 3, none⟩ v3).setCell ⟨k, 4, none⟩ v4).setCell ⟨k, 5, none⟩ v5).setCell ⟨k, 6, none⟩ v6)).heap[k]? = some (.cells #[v0, v1, v2, v3, v4, v5, v6, a7] T (0, 0)) := blk_set h6 6 v6
  have h8 : (((((((((w.setCell ⟨k, 0, none⟩ v0).setCell ⟨k, 1, none⟩ v1).setCell ⟨k, 2, none⟩ v2).setCell ⟨k, 3, none⟩ v3).setCell ⟨k, 4, none⟩ v4).setCell ⟨k, 5, none⟩ v5).setCell ⟨k, 6, none⟩ v6).setCell ⟨k, 7, none⟩ v7)).heap[k]? = some (.cells #[v0, v1, v2, v3, v4, v5, v6, v7] T (0, 0)) := blk_set h7 7 v7
  exact h8
set_option maxRecDepth 100000 in
set_option maxHeartbeats 2000000 in
theorem g_tableOf (w : World) (B : Nat) (A4 : Option Addr) (n4 c4 : Nat) (ts : List TableD) (h : RowV 8 TableV B w (.slice A4 n4 c4) ts) (hB : B ≤ w.heap.size) (s0 s1 s2 s3 s5 s6 s7 s8 s9 : Value) (e1 e2 e3 e4 : Value) (id : Int) :
    Calls Tryz.prog 170 #[.agg #[s0, s1, s2, s3, .slice A4 n4 c4, s5, s6, s7, s8, s9], .agg #[.int .i64 id, e1, e2, e3, e4]] w (RetTab ts id B w) := by
  obtain ⟨hn, hc, hm⟩ := h.len
  obtain ⟨W0, hW0⟩ : ∃ W, W = (((w.alloc (.cells #[s0, s1, s2, s3, .slice A4 n4 c4, s5, s6, s7, s8, s9] 36)).alloc (.cells #[.int .i64 id, e1, e2, e3, e4] 26)).alloc (.cells #[.int .i64 0, .string ⟨#[]⟩, .slice none 0 0, .slice none 0 0, .int .i64 0, .slice none 0 0, .int .i64 0, .string ⟨#[]⟩] 59)) := ⟨_, rfl⟩
  have hB0 : Below w.heap.size w W0 := by rw [hW0]; exact ((((Below.refl w.heap.size w).alloc (by simp <;> omega) _).alloc (by simp <;> omega) _).alloc (by simp <;> omega) _)
  have hz0 : W0.heap.size = w.heap.size + 3 := by rw [hW0]; simp
  have b0_0 : W0.heap[w.heap.size]? = some (.cells #[s0, s1, s2, s3, .slice A4 n4 c4, s5, s6, s7, s8, s9] 36 (0, 0)) := by
    rw [hW0]
    exact ((((Below.refl (w.alloc (.cells #[s0, s1, s2, s3, .slice A4 n4 c4, s5, s6, s7, s8, s9] 36)).heap.size (w.alloc (.cells #[s0, s1, s2, s3, .slice A4 n4 c4, s5, s6, s7, s8, s9] 36))).alloc (by simp <;> omega) _).alloc (by simp <;> omega) _).block w.heap.size (by simp)).trans (heap_alloc_new _ _)
  have b0_1 : W0.heap[w.heap.size + 1]? = some (.cells #[.int .i64 id, e1, e2, e3, e4] 26 (0, 0)) := by
    rw [hW0]
    rw [show w.heap.size + 1 = (w.alloc (.cells #[s0, s1, s2, s3, .slice A4 n4 c4, s5, s6, s7, s8, s9] 36)).heap.size by simp]
    exact (((Below.refl ((w.alloc (.cells #[s0, s1, s2, s3, .slice A4 n4 c4, s5, s6, s7, s8, s9] 36)).alloc (.cells #[.int .i64 id, e1, e2, e3, e4] 26)).heap.size ((w.alloc (.cells #[s0, s1, s2, s3, .slice A4 n4 c4, s5, s6, s7, s8, s9] 36)).alloc (.cells #[.int .i64 id, e1, e2, e3, e4] 26))).alloc (by simp <;> omega) _).block (w.alloc (.cells #[s0, s1, s2, s3, .slice A4 n4 c4, s5, s6, s7, s8, s9] 36)).heap.size (by simp)).trans (heap_alloc_new _ _)
  have b0_2 : W0.heap[w.heap.size + 2]? = some (.cells #[.int .i64 0, .string ⟨#[]⟩, .slice none 0 0, .slice none 0 0, .int .i64 0, .slice none 0 0, .int .i64 0, .string ⟨#[]⟩] 59 (0, 0)) := by
    rw [hW0]
    rw [show w.heap.size + 2 = ((w.alloc (.cells #[s0, s1, s2, s3, .slice A4 n4 c4, s5, s6, s7, s8, s9] 36)).alloc (.cells #[.int .i64 id, e1, e2, e3, e4] 26)).heap.size by simp]
    exact heap_alloc_new _ _
  have hr := h.below kept_table (hB0.mono hB)
  have KX := Lib.hid (g_TableOf W0 B A4 n4 c4 ts hr (Nat.le_trans hB hB0.size) s0 s1 s2 s3 s5 s6 s7 s8 s9 id)
  have HB0 := Lib.hid hB0
  have HW0 := Lib.hid hW0
  have HR := Lib.hid hr
  have Hb0 := Lib.hid b0_0
  have Hb2 := Lib.hid b0_2
  clear h hB0 hr hW0 b0_0 b0_1 b0_2
  go_enter Tryz.func170, Tryz.ntmps170
  go_wp2_with fail
  rw [← HW0.out]
  refine KX.out.mono ?_
  rintro e w1 ⟨rfl, hb1⟩
  have HB1 := Lib.hid (HB0.out.trans (hb1.mono HB0.out.size))
  have d0 := (hb1.block w.heap.size (by omega)).trans Hb0.out
  have d2 := (hb1.block (w.heap.size + 2) (by omega)).trans Hb2.out
  have hr1 := HR.out.below kept_table (hb1.mono (Nat.le_trans hB HB0.out.size))
  have hz1 : w.heap.size + 3 ≤ w1.heap.size := by have := hb1.size; omega
  have c4' : w1.cell? ⟨w.heap.size, 4, none⟩ = some (.slice A4 n4 c4) := blk_cell d0 4 _ rfl
  have z0 : w1.cell? ⟨w.heap.size + 2, 0, none⟩ = some (.int .i64 0) := blk_cell d2 0 _ rfl
  have f0 := blk_froz d2 0
  have z1 : w1.cell? ⟨w.heap.size + 2, 1, none⟩ = some (.string ⟨#[]⟩) := blk_cell d2 1 _ rfl
  have f1 := blk_froz d2 1
  have z2 : w1.cell? ⟨w.heap.size + 2, 2, none⟩ = some (.slice none 0 0) := blk_cell d2 2 _ rfl
  have f2 := blk_froz d2 2
  have z3 : w1.cell? ⟨w.heap.size + 2, 3, none⟩ = some (.slice none 0 0) := blk_cell d2 3 _ rfl
  have f3 := blk_froz d2 3
  have z4 : w1.cell? ⟨w.heap.size + 2, 4, none⟩ = some (.int .i64 0) := blk_cell d2 4 _ rfl
  have f4 := blk_froz d2 4
  have z5 : w1.cell? ⟨w.heap.size + 2, 5, none⟩ = some (.slice none 0 0) := blk_cell d2 5 _ rfl
  have f5 := blk_froz d2 5
  have z6 : w1.cell? ⟨w.heap.size + 2, 6, none⟩ = some (.int .i64 0) := blk_cell d2 6 _ rfl
  have f6 := blk_froz d2 6
  have z7 : w1.cell? ⟨w.heap.size + 2, 7, none⟩ = some (.string ⟨#[]⟩) := blk_cell d2 7 _ rfl
  have f7 := blk_froz d2 7
  have HR1 := Lib.hid hr1
  have HD2 := Lib.hid d2
  clear hb1 KX d0 d2 hr1
  rcases tbl_is ts id with ⟨e1, e2⟩ | ⟨j, t, e1, e2, -, e4⟩
  · rw [e1]
    have E2 := Lib.hid e2
    clear e1 e2
    go_wp2_with fail
    have hS : Below w.heap.size w1 _ := below_set8 (B := w.heap.size) (k := w.heap.size + 1 + 1) w1 (by omega) (.int .i64 0) (.string ⟨#[]⟩) (.slice none 0 0) (.slice none 0 0) (.int .i64 0) (.slice none 0 0) (.int .i64 0) (.string ⟨#[]⟩)
    have HS := Lib.hid hS
    clear hS
    have hq := blk_set8 HD2.out (.int .i64 0) (.string ⟨#[]⟩) (.slice none 0 0) (.slice none 0 0) (.int .i64 0) (.slice none 0 0) (.int .i64 0) (.string ⟨#[]⟩)
    rw [show w.heap.size + 2 = w.heap.size + 1 + 1 from rfl] at hq
    have q := fun j v h => blk_cell hq j v h
    refine bodyPost_ret (v := .tuple #[.agg #[.int .i64 0, .string ⟨#[]⟩, .slice none 0 0, .slice none 0 0, .int .i64 0, .slice none 0 0, .int .i64 0, .string ⟨#[]⟩], .bool false]) (by simp [results, Tryz.results170, go_sem, q 0 _ rfl, q 1 _ rfl, q 2 _ rfl, q 3 _ rfl, q 4 _ rfl, q 5 _ rfl, q 6 _ rfl, q 7 _ rfl]) rfl ?_
    have et : tabOr ts id = tab0 := by unfold tabOr; rw [E2.out]; rfl
    rw [RetTab, et, E2.out]
    exact ⟨_, _, _, rfl, row_nil _ _ _ _, row_nil _ _ _ _, row_nil _ _ _ _, HB1.out.trans HS.out⟩
  · rw [e1]
    have hjn : j < ts.length := (List.getElem?_eq_some_iff.1 e2).1
    have hj1 : ¬ (j : Int) < 0 := by omega
    have hj2 : (j : Int) < (n4 : Int) := by rw [hn.out]; omega
    have hj3 : 0 ≤ (j : Int) := by omega
    have hj4 : (j : Int) < (c4 : Int) := by omega
    obtain ⟨g, oo, e5, x, hxk, hgB, cs, hcs, hV⟩ := row_at HR1.out hjn
    have ex : x = t := by rw [hxk] at e2; injection e2
    subst ex
    obtain ⟨vk, va, vr, rfl, -, -, rk, ra, -, rr, -⟩ := hV
    subst e5
    obtain ⟨Ak, nk, ck, rfl, _⟩ := rk.parts
    obtain ⟨Aa, na, ca, rfl, _⟩ := ra.parts
    obtain ⟨Ar, nr, cr, rfl, _⟩ := rr.parts
    have d0 : w1.cell? ⟨g, oo + j * 8, none⟩ = some _ := hcs.at0 _ rfl
    have d1 : w1.cell? ⟨g, oo + j * 8 + 1, none⟩ = some _ := hcs.at 1 _ rfl
    have d2 : w1.cell? ⟨g, oo + j * 8 + 2, none⟩ = some _ := hcs.at 2 _ rfl
    have d3 : w1.cell? ⟨g, oo + j * 8 + 3, none⟩ = some _ := hcs.at 3 _ rfl
    have d4 : w1.cell? ⟨g, oo + j * 8 + 4, none⟩ = some _ := hcs.at 4 _ rfl
    have d5 : w1.cell? ⟨g, oo + j * 8 + 5, none⟩ = some _ := hcs.at 5 _ rfl
    have d6 : w1.cell? ⟨g, oo + j * 8 + 6, none⟩ = some _ := hcs.at 6 _ rfl
    have d7 : w1.cell? ⟨g, oo + j * 8 + 7, none⟩ = some _ := hcs.at 7 _ rfl
    have E4 := Lib.hid e4
    have HRK := Lib.hid (show RowV 3 KeyV B w1 (.slice Ak nk ck) x.keys ∧ RowV 1 I64V B w1 (.slice Aa na ca) x.actions ∧ RowV 2 ValV B w1 (.slice Ar nr cr) x.args from ⟨rk, ra, rr⟩)
    clear e1 e2 e4 hxk hcs rk ra rr
    go_wp2_with fail
    have hS : Below w.heap.size w1 _ := below_set8 (B := w.heap.size) (k := w.heap.size + 1 + 1) w1 (by omega) (.int .i64 x.id) (.string (strL x.name)) (.slice Ak nk ck) (.slice Aa na ca) (.int .i64 x.dflt) (.slice Ar nr cr) (.int .i64 x.size) (.string (strL x.restr))
    have HS := Lib.hid hS
    clear hS
    have hq := blk_set8 HD2.out (.int .i64 x.id) (.string (strL x.name)) (.slice Ak nk ck) (.slice Aa na ca) (.int .i64 x.dflt) (.slice Ar nr cr) (.int .i64 x.size) (.string (strL x.restr))
    rw [show w.heap.size + 2 = w.heap.size + 1 + 1 from rfl] at hq
    have q := fun j v h => blk_cell hq j v h
    refine bodyPost_ret (v := .tuple #[.agg #[.int .i64 x.id, .string (strL x.name), .slice Ak nk ck, .slice Aa na ca, .int .i64 x.dflt, .slice Ar nr cr, .int .i64 x.size, .string (strL x.restr)], .bool true]) (by simp [results, Tryz.results170, go_sem, q 0 _ rfl, q 1 _ rfl, q 2 _ rfl, q 3 _ rfl, q 4 _ rfl, q 5 _ rfl, q 6 _ rfl, q 7 _ rfl]) rfl ?_
    have et : tabOr ts id = x := by unfold tabOr; rw [E4.out]; rfl
    have hb2 := HS.out.mono hB
    obtain ⟨rk, ra, rr⟩ := HRK.out
    rw [RetTab, et, E4.out]
    exact ⟨_, _, _, rfl, rk.below kept_key hb2, ra.below kept_int hb2, rr.below kept_val hb2, HB1.out.trans HS.out⟩
end Go.Proofs.YtldgjahpmlafgaaGreat
