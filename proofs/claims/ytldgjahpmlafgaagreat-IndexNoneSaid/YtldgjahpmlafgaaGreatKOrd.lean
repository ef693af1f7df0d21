/- ordered: the small methods; check: a table, a field by its number. -/
import Derived.Test.YtldgjahpmlafgaaGreatKIdx
import Derived.Test.YtldgjahpmlafgaaGreatGLow
namespace Go.Proofs.YtldgjahpmlafgaaGreat
open Go.RowKit
set_option maxRecDepth 100000 in
set_option maxHeartbeats 4000000 in
theorem o_find {w : World} {X B : Nat} {s0 s1 s2 s3 s4 s5 s6 s7 s8 s9 : Value} {A : Option Addr} {n c : Nat} {xs : List (EntryD × Int × Int)} (hx : w.heap[X]? = some (.cells #[s0, s1, s2, s3, s4, s5, s6, s7, s8, s9, .slice A n c] 158 (0, 0))) (h : RowV 7 InstV B w (.slice A n c) xs) (hB : B ≤ w.heap.size) (num : Int) : Calls Tryz.prog 92 #[.pointer (some ⟨X, 0, none⟩), .int .i64 num] w (RetX (.int .i64 (ixI num (xs.map (fun x => x.2.1)) 0)) w) := by
  obtain ⟨W0, hW0⟩ : ∃ W, W = w.alloc (.cells #[.int .i64 num] 3) := ⟨_, rfl⟩
  have hb0 : Below w.heap.size w W0 := by rw [hW0]; exact (Below.refl _ _).alloc (Nat.le_refl _) _
  have hq : W0.cell? ⟨w.heap.size, 0, none⟩ = some (.int .i64 num) := by rw [hW0]; exact blk_cell (heap_alloc_new w _) 0 _ rfl
  have hl : W0.cell? ⟨X, 10, none⟩ = some (.slice A n c) := blk_cell ((hb0.block X (Array.getElem?_eq_some_iff.1 hx).1).trans hx) 10 _ rfl
  have K := Lib.hid (ix_installed (w := W0) (h.below kept_installed (hb0.mono hB)) (Nat.le_trans hB hb0.size) w.heap.size num hq)
  have HW0 := Lib.hid hW0
  have HB0 := Lib.hid hb0
  clear hW0 hb0 h hx
  go_enter Tryz.func92, Tryz.ntmps92
  go_upto_region 1 with fail
  rw [← HW0.out]
  clear HW0 hq
  go_wp2_with (go_at_call 148; (with_reducible refine K.out.mono ?_); rintro en w2 ⟨rfl, hb2⟩; have HB2 := Lib.hid hb2; clear hb2)
  go_ret
  exact ⟨rfl, HB0.out.trans (HB2.out.mono HB0.out.size)⟩
set_option maxRecDepth 100000 in
set_option maxHeartbeats 4000000 in
theorem o_find_nil (w : World) (num : Int) : Calls Tryz.prog 92 #[.pointer none, .int .i64 num] w (RetX (.int .i64 (-1)) w) := by
  go_enter Tryz.func92, Tryz.ntmps92
  go_wp2_with fail
  go_ret
  exact ⟨rfl, (Below.refl w.heap.size w).alloc (Nat.le_refl _) _⟩
set_option maxRecDepth 100000 in
set_option maxHeartbeats 4000000 in
theorem o_Len {w : World} {X : Nat} {s0 s1 s2 s3 s4 s5 s6 s7 s8 s9 : Value} {A : Option Addr} {n c : Nat} (hx : w.heap[X]? = some (.cells #[s0, s1, s2, s3, s4, s5, s6, s7, s8, s9, .slice A n c] 158 (0, 0))) : Calls Tryz.prog 46 #[.pointer (some ⟨X, 0, none⟩)] w (RetX (.int .i64 (n : Int)) w) := by
  have hl : w.cell? ⟨X, 10, none⟩ = some (.slice A n c) := blk_cell hx 10 _ rfl
  clear hx
  go_enter Tryz.func46, Tryz.ntmps46
  go_wp2_with fail
  go_ret
  exact ⟨rfl, Below.refl _ _⟩
set_option maxRecDepth 100000 in
set_option maxHeartbeats 4000000 in
theorem o_Len_nil (w : World) : Calls Tryz.prog 46 #[.pointer none] w (RetX (.int .i64 0) w) := by
  go_enter Tryz.func46, Tryz.ntmps46
  go_wp2_with fail
  go_ret
  exact ⟨rfl, Below.refl _ _⟩
set_option maxRecDepth 100000 in
set_option maxHeartbeats 4000000 in
theorem o_All {w : World} {X B : Nat} {s0 s1 s2 s3 s4 s5 s6 s7 s8 s9 : Value} {A : Option Addr} {n c : Nat} {xs : List (EntryD × Int × Int)} (hx : w.heap[X]? = some (.cells #[s0, s1, s2, s3, s4, s5, s6, s7, s8, s9, .slice A n c] 158 (0, 0))) (h : RowV 7 InstV B w (.slice A n c) xs) (hB : B ≤ w.heap.size) (hn : xs.length ≤ 1000000) (hs0 : ∀ x ∈ xs, x.1.ms.length ≤ 1000000) (hs1 : ∀ x ∈ xs, x.1.args.length ≤ 1000000) : Calls Tryz.prog 44 #[.pointer (some ⟨X, 0, none⟩)] w (RetClo 7 InstV w xs) := by
  have hl : w.cell? ⟨X, 10, none⟩ = some (.slice A n c) := blk_cell hx 10 _ rfl
  have K := Lib.hid (ea_installed h hB hn hs0 hs1)
  clear hx h
  go_enter Tryz.func44, Tryz.ntmps44
  go_wp2_with (go_at_call 89; (with_reducible refine K.out.mono ?_); rintro en w2 ⟨A2, n2, c2, rfl, hr2, hb2⟩; have HR2 := Lib.hid hr2; have HB2 := Lib.hid hb2; clear hr2 hb2)
  go_ret
  exact ⟨A2, n2, c2, rfl, HR2.out, HB2.out⟩
set_option maxRecDepth 100000 in
set_option maxHeartbeats 4000000 in
theorem o_All_nil (w : World) : Calls Tryz.prog 44 #[.pointer none] w (RetX (.slice none 0 0) w) := by
  go_enter Tryz.func44, Tryz.ntmps44
  go_wp2_with fail
  go_ret
  exact ⟨rfl, Below.refl _ _⟩
set_option maxRecDepth 100000 in
set_option maxHeartbeats 4000000 in
theorem t_TableOf {w : World} {B : Nat} {s0 s1 s2 s3 s4 s5 s6 s7 : Value} {x : SchemaD} (h : SchM w B s0 s1 s2 s3 s4 s5 s6 s7 x) (hB : B ≤ w.heap.size) (s8 s9 : Value) (id : Int) : Calls Tryz.prog 72 #[.agg #[s0, s1, s2, s3, s4, s5, s6, s7, s8, s9], .int .i64 id] w (RetX (.int .i64 (ixI id (x.tables.map (fun x => x.id)) 0)) w) := by
  obtain ⟨A, n, c, rfl, _⟩ := h.t.parts
  obtain ⟨W0, hW0⟩ : ∃ W, W = (w.alloc (.cells #[s0, s1, s2, s3, .slice A n c, s5, s6, s7, s8, s9] 36)).alloc (.cells #[.int .i64 id] 3) := ⟨_, rfl⟩
  have hb0 : Below w.heap.size w W0 := by rw [hW0]; exact ((Below.refl w.heap.size w).alloc (by simp) _).alloc (by simp) _
  have hq : W0.cell? ⟨w.heap.size + 1, 0, none⟩ = some (.int .i64 id) := by
    rw [hW0, show w.heap.size + 1 = (w.alloc (.cells #[s0, s1, s2, s3, .slice A n c, s5, s6, s7, s8, s9] 36)).heap.size by simp]
    exact blk_cell (heap_alloc_new _ _) 0 _ rfl
  have hl : W0.cell? ⟨w.heap.size, 4, none⟩ = some (.slice A n c) := by
    refine blk_cell (cs := #[s0, s1, s2, s3, .slice A n c, s5, s6, s7, s8, s9]) (T := 36) (fr := (0, 0)) ?_ 4 _ rfl
    rw [hW0]
    exact ((grown_alloc _ _ none).block _ (by simp) (by simp)).trans (heap_alloc_new _ _)
  have K := Lib.hid (ix_table (w := W0) (h.t.below kept_table (hb0.mono hB)) (Nat.le_trans hB hb0.size) (w.heap.size + 1) id hq)
  have HW0 := Lib.hid hW0
  have HB0 := Lib.hid hb0
  clear hW0 hb0 h
  go_enter Tryz.func72, Tryz.ntmps72
  go_upto_region 1 with fail
  rw [← HW0.out]
  clear HW0 hq
  go_wp2_with (go_at_call 107; (with_reducible refine K.out.mono ?_); rintro en w2 ⟨rfl, hb2⟩; have HB2 := Lib.hid hb2; clear hb2)
  go_ret
  exact ⟨rfl, HB0.out.trans (HB2.out.mono HB0.out.size)⟩
set_option maxRecDepth 100000 in
set_option maxHeartbeats 4000000 in
theorem t_FieldOf {w : World} {B : Nat} {s0 s1 s2 s3 s4 s5 s6 s7 : Value} {x : SchemaD} (h : SchM w B s0 s1 s2 s3 s4 s5 s6 s7 x) (hB : B ≤ w.heap.size) (s8 s9 : Value) (id : Int) : Calls Tryz.prog 167 #[.agg #[s0, s1, s2, s3, s4, s5, s6, s7, s8, s9], .int .i64 id] w (RetX (.int .i64 (ixI id (x.fields.map (fun x => x.id)) 0)) w) := by
  obtain ⟨A, n, c, rfl, _⟩ := h.f.parts
  obtain ⟨W0, hW0⟩ : ∃ W, W = (w.alloc (.cells #[.slice A n c, s1, s2, s3, s4, s5, s6, s7, s8, s9] 36)).alloc (.cells #[.int .i64 id] 3) := ⟨_, rfl⟩
  have hb0 : Below w.heap.size w W0 := by rw [hW0]; exact ((Below.refl w.heap.size w).alloc (by simp) _).alloc (by simp) _
  have hq : W0.cell? ⟨w.heap.size + 1, 0, none⟩ = some (.int .i64 id) := by
    rw [hW0, show w.heap.size + 1 = (w.alloc (.cells #[.slice A n c, s1, s2, s3, s4, s5, s6, s7, s8, s9] 36)).heap.size by simp]
    exact blk_cell (heap_alloc_new _ _) 0 _ rfl
  have hl : W0.cell? ⟨w.heap.size, 0, none⟩ = some (.slice A n c) := by
    refine blk_cell (cs := #[.slice A n c, s1, s2, s3, s4, s5, s6, s7, s8, s9]) (T := 36) (fr := (0, 0)) ?_ 0 _ rfl
    rw [hW0]
    exact ((grown_alloc _ _ none).block _ (by simp) (by simp)).trans (heap_alloc_new _ _)
  have K := Lib.hid (ix_field (w := W0) (h.f.below kept_field (hb0.mono hB)) (Nat.le_trans hB hb0.size) (w.heap.size + 1) id hq)
  have HW0 := Lib.hid hW0
  have HB0 := Lib.hid hb0
  clear hW0 hb0 h
  go_enter Tryz.func167, Tryz.ntmps167
  go_upto_region 1 with fail
  rw [← HW0.out]
  clear HW0 hq
  go_wp2_with (go_at_call 186; (with_reducible refine K.out.mono ?_); rintro en w2 ⟨rfl, hb2⟩; have HB2 := Lib.hid hb2; clear hb2)
  go_ret
  exact ⟨rfl, HB0.out.trans (HB2.out.mono HB0.out.size)⟩
end Go.Proofs.YtldgjahpmlafgaaGreat
