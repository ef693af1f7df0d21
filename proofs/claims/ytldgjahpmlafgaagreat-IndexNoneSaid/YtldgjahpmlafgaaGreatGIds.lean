/- The reference's indexes of elements. -/
import Derived.Test.YtldgjahpmlafgaaGreatSMake
import Derived.Test.YtldgjahpmlafgaaGreatGPre
namespace Go.Proofs.YtldgjahpmlafgaaGreat
open Go.RowKit

theorem info_intM : (Tryz.prog.info? 3).map (fun i => (i.zero, i.size, i.bytes)) = some (some (.int .i64 0), 1, 8) := by kernel_rfl
theorem own_belowG {w w' : World} {B e sz n : Nat} {v : Value} {l : List Value} (h : w.ownsRow B e sz v n l) (hb : Below w.heap.size w w') : w'.ownsRow B e sz v n l :=
  World.ownsRow.kept h (row := none) ⟨hb.os, hb.tape, hb.output, hb.size, fun k hk _ => hb.block k hk⟩ (by cases v.ownBlock <;> simp)
theorem own_block_geG {w : World} {B e sz n k : Nat} {v : Value} {l : List Value} (h : w.ownsRow B e sz v n l) (hk : v.ownBlock = some k) : B ≤ k := (World.ownsRow.lt h k hk).1
def intCells (l : List Int) : List Value := l.map fun x => .int .i64 x
theorem int_flat (l : List Int) : flat (fun x : Int => [Value.int .i64 x]) l = intCells l := by
  unfold flat intCells
  rw [List.map_eq_flatMap]
theorem int_own {w : World} {v : Value} {Z n : Nat} {l : List Int} (hn : n = l.length) (h : w.ownsRow Z 3 1 v n (intCells (l.take n))) (hI : ∀ x ∈ l, I64 x) : RowH 1 I64V Z w.heap.size w v l := by
  subst hn
  rw [List.take_length] at h
  exact rowH_of_own (enc := fun x : Int => [Value.int .i64 x]) (fun _ => rfl) (Nat.le_refl _) (Nat.le_refl _) (fun x hx _ _ _ _ => ⟨rfl, hI x hx⟩) (by rw [int_flat]; exact h)
theorem take_ids {α : Type} {f : α → Int} {xs : List α} {k : Nat} {x : α} (h : xs[k]? = some x) : intCells (((xs.map f).take (k + 1))) = intCells ((xs.map f).take k) ++ [.int .i64 (f x)] := by
  obtain ⟨a, b⟩ := List.getElem?_eq_some_iff.1 h
  rw [List.take_succ_eq_append_getElem (by rw [List.length_map]; exact a)]
  simp [intCells, b]
def RetIds (fs : List FieldD) (hs : List HeaderD) (ss : List StateD) (acs : List ActionD) (ts : List TableD) (rs : List RoleD) (w : World) (en : Ending) (w' : World) : Prop := ∃ v0 v1 v2 v3 v4 v5 : Value, en = .returned (.agg #[v0, v1, v2, v3, v4, v5]) ∧ RowV 1 I64V w'.heap.size w' v0 (fs.map (·.id)) ∧ RowV 1 I64V w'.heap.size w' v1 (hs.map (·.id)) ∧ RowV 1 I64V w'.heap.size w' v2 (ss.map (·.id)) ∧ RowV 1 I64V w'.heap.size w' v3 (acs.map (·.id)) ∧ RowV 1 I64V w'.heap.size w' v4 (ts.map (·.id)) ∧ RowV 1 I64V w'.heap.size w' v5 (rs.map (·.id)) ∧ Below w.heap.size w w'
set_option maxRecDepth 100000 in
set_option maxHeartbeats 8000000 in
theorem g_ids (w : World) (B : Nat) (A0 : Option Addr) (n0 c0 : Nat) (fs : List FieldD) (A1 : Option Addr) (n1 c1 : Nat) (hs : List HeaderD) (A2 : Option Addr) (n2 c2 : Nat) (ss : List StateD) (A3 : Option Addr) (n3 c3 : Nat) (acs : List ActionD) (A4 : Option Addr) (n4 c4 : Nat) (ts : List TableD) (A6 : Option Addr) (n6 c6 : Nat) (rs : List RoleD) (s5 s7 s8 s9 : Value) (hB : B ≤ w.heap.size) (h0 : RowV 3 FieldV B w (.slice A0 n0 c0) fs) (l0 : n0 ≤ 1000000) (h1 : RowV 3 HeaderV B w (.slice A1 n1 c1) hs) (l1 : n1 ≤ 1000000) (h2 : RowV 5 StateV B w (.slice A2 n2 c2) ss) (l2 : n2 ≤ 1000000) (h3 : RowV 5 ActionV B w (.slice A3 n3 c3) acs) (l3 : n3 ≤ 1000000) (h4 : RowV 8 TableV B w (.slice A4 n4 c4) ts) (l4 : n4 ≤ 1000000) (h6 : RowV 6 RoleV B w (.slice A6 n6 c6) rs) (l6 : n6 ≤ 1000000) :
    Calls Tryz.prog 154 #[.agg #[.slice A0 n0 c0, .slice A1 n1 c1, .slice A2 n2 c2, .slice A3 n3 c3, .slice A4 n4 c4, s5, .slice A6 n6 c6, s7, s8, s9]] w (RetIds fs hs ss acs ts rs w) := by
  obtain ⟨W0, hW0⟩ : ∃ W, W = (((w.alloc (.cells #[.slice A0 n0 c0, .slice A1 n1 c1, .slice A2 n2 c2, .slice A3 n3 c3, .slice A4 n4 c4, s5, .slice A6 n6 c6, s7, s8, s9] 36)).alloc (.cells #[.slice none 0 0, .slice none 0 0, .slice none 0 0, .slice none 0 0, .slice none 0 0, .slice none 0 0] 234)).alloc (.cells #[.slice none 0 0, .slice none 0 0, .slice none 0 0, .slice none 0 0, .slice none 0 0, .slice none 0 0] 234)) := ⟨_, rfl⟩
  have hB0 : Below w.heap.size w W0 := by rw [hW0]; exact ((((Below.refl w.heap.size w).alloc (by simp <;> omega) _).alloc (by simp <;> omega) _).alloc (by simp <;> omega) _)
  have hz0 : W0.heap.size = w.heap.size + 3 := by rw [hW0]; simp
  have b0_0 : W0.heap[w.heap.size]? = some (.cells #[.slice A0 n0 c0, .slice A1 n1 c1, .slice A2 n2 c2, .slice A3 n3 c3, .slice A4 n4 c4, s5, .slice A6 n6 c6, s7, s8, s9] 36 (0, 0)) := by
    rw [hW0]
    exact ((((Below.refl (w.alloc (.cells #[.slice A0 n0 c0, .slice A1 n1 c1, .slice A2 n2 c2, .slice A3 n3 c3, .slice A4 n4 c4, s5, .slice A6 n6 c6, s7, s8, s9] 36)).heap.size (w.alloc (.cells #[.slice A0 n0 c0, .slice A1 n1 c1, .slice A2 n2 c2, .slice A3 n3 c3, .slice A4 n4 c4, s5, .slice A6 n6 c6, s7, s8, s9] 36))).alloc (by simp <;> omega) _).alloc (by simp <;> omega) _).block w.heap.size (by simp)).trans (heap_alloc_new _ _)
  have b0_1 : W0.heap[w.heap.size + 1]? = some (.cells #[.slice none 0 0, .slice none 0 0, .slice none 0 0, .slice none 0 0, .slice none 0 0, .slice none 0 0] 234 (0, 0)) := by
    rw [hW0]
    rw [show w.heap.size + 1 = (w.alloc (.cells #[.slice A0 n0 c0, .slice A1 n1 c1, .slice A2 n2 c2, .slice A3 n3 c3, .slice A4 n4 c4, s5, .slice A6 n6 c6, s7, s8, s9] 36)).heap.size by simp]
    exact (((Below.refl ((w.alloc (.cells #[.slice A0 n0 c0, .slice A1 n1 c1, .slice A2 n2 c2, .slice A3 n3 c3, .slice A4 n4 c4, s5, .slice A6 n6 c6, s7, s8, s9] 36)).alloc (.cells #[.slice none 0 0, .slice none 0 0, .slice none 0 0, .slice none 0 0, .slice none 0 0, .slice none 0 0] 234)).heap.size ((w.alloc (.cells #[.slice A0 n0 c0, .slice A1 n1 c1, .slice A2 n2 c2, .slice A3 n3 c3, .slice A4 n4 c4, s5, .slice A6 n6 c6, s7, s8, s9] 36)).alloc (.cells #[.slice none 0 0, .slice none 0 0, .slice none 0 0, .slice none 0 0, .slice none 0 0, .slice none 0 0] 234))).alloc (by simp <;> omega) _).block (w.alloc (.cells #[.slice A0 n0 c0, .slice A1 n1 c1, .slice A2 n2 c2, .slice A3 n3 c3, .slice A4 n4 c4, s5, .slice A6 n6 c6, s7, s8, s9] 36)).heap.size (by simp)).trans (heap_alloc_new _ _)
  have b0_2 : W0.heap[w.heap.size + 2]? = some (.cells #[.slice none 0 0, .slice none 0 0, .slice none 0 0, .slice none 0 0, .slice none 0 0, .slice none 0 0] 234 (0, 0)) := by
    rw [hW0]
    rw [show w.heap.size + 2 = ((w.alloc (.cells #[.slice A0 n0 c0, .slice A1 n1 c1, .slice A2 n2 c2, .slice A3 n3 c3, .slice A4 n4 c4, s5, .slice A6 n6 c6, s7, s8, s9] 36)).alloc (.cells #[.slice none 0 0, .slice none 0 0, .slice none 0 0, .slice none 0 0, .slice none 0 0, .slice none 0 0] 234)).heap.size by simp]
    exact heap_alloc_new _ _
  obtain ⟨i0, hi0, hz00, hy1, hy2⟩ := info_parts info_intM
  have HI := Lib.hid hi0
  have HZ := Lib.hid hz00
  have HY1 := Lib.hid hy1
  have HY2 := Lib.hid hy2
  have HB0 := Lib.hid hB0
  have HW0 := Lib.hid hW0
  have HBX0 := Lib.hid b0_0
  have HRS := Lib.hid b0_1
  have HBL0 := Lib.hid b0_2
  clear hi0 hz00 hy1 hy2 hB0 hW0 b0_0 b0_1 b0_2
  obtain ⟨hn0, hc0, hm0⟩ := h0.len
  have HR0 := Lib.hid h0
  obtain ⟨hn1, hc1, hm1⟩ := h1.len
  have HR1 := Lib.hid h1
  obtain ⟨hn2, hc2, hm2⟩ := h2.len
  have HR2 := Lib.hid h2
  obtain ⟨hn3, hc3, hm3⟩ := h3.len
  have HR3 := Lib.hid h3
  obtain ⟨hn4, hc4, hm4⟩ := h4.len
  have HR4 := Lib.hid h4
  obtain ⟨hn6, hc6, hm6⟩ := h6.len
  have HR6 := Lib.hid h6
  clear h0 h1 h2 h3 h4 h6
  go_enter Tryz.func154, Tryz.ntmps154
  go_upto_region 2 with fail
  change Code.wp _ _ _ _ (((w.alloc (.cells #[.slice A0 n0 c0, .slice A1 n1 c1, .slice A2 n2 c2, .slice A3 n3 c3, .slice A4 n4 c4, s5, .slice A6 n6 c6, s7, s8, s9] 36)).alloc (.cells #[.slice none 0 0, .slice none 0 0, .slice none 0 0, .slice none 0 0, .slice none 0 0, .slice none 0 0] 234)).alloc (.cells #[.slice none 0 0, .slice none 0 0, .slice none 0 0, .slice none 0 0, .slice none 0 0, .slice none 0 0] 234))
  rw [← HW0.out]
  have hzW0 : W0.heap.size = w.heap.size + 3 := hz0
  clear hz0
  have c0' : W0.cell? ⟨w.heap.size, 0, none⟩ = some (.slice A0 n0 c0) := blk_cell HBX0.out 0 _ rfl
  go_wp2_with fail
  go_loopw [19] (fun i W => ∃ q : Nat, q ≤ n0 ∧ i = .int .i64 q ∧ Below w.heap.size w W ∧ SameB (w.heap.size + 3) W0.heap.size W0 W ∧ W.heap[w.heap.size]? = some (.cells #[.slice A0 n0 c0, .slice A1 n1 c1, .slice A2 n2 c2, .slice A3 n3 c3, .slice A4 n4 c4, s5, .slice A6 n6 c6, s7, s8, s9] 36 (0, 0)) ∧ ∃ v, W.heap[w.heap.size + 2]? = some (.cells #[v, .slice none 0 0, .slice none 0 0, .slice none 0 0, .slice none 0 0, .slice none 0 0] 234 (0, 0)) ∧ W.heap[w.heap.size + 1]? = some (.cells #[.slice none 0 0, .slice none 0 0, .slice none 0 0, .slice none 0 0, .slice none 0 0, .slice none 0 0] 234 (0, 0)) ∧ W.ownsRow W0.heap.size 3 1 v q (intCells ((fs.map (·.id)).take q))) (fun i _ => n0 - (intOf i).toNat)
  case atStart => exact ⟨0, by omega, rfl, HB0.out, .refl (Nat.le_refl _), HBX0.out, _, HBL0.out, HRS.out, World.ownsRow_nil _ _ _ _⟩
  case round =>
    obtain ⟨q, hq, rfl, hb, hs, hbx, v0, hbl, hrs1, ho⟩ := hrel
    obtain ⟨A9, c9, rfl⟩ := own_shapeH ho
    have HB := Lib.hid hb
    have HS := Lib.hid hs
    have HBX := Lib.hid hbx
    have HRS1 := Lib.hid hrs1
    have HO := Lib.hid ho
    have HBL := Lib.hid hbl
    have hsz : w.heap.size + 3 ≤ wr.heap.size := by have := hs.size; omega
    have hszP : W0.heap.size ≤ wr.heap.size := hs.size
    by_cases hlt : q < n0
    · have hkI : (q : Int) < (n0 : Int) := by omega
      have hkc : (q : Int) < (c0 : Int) := by omega
      have hk0 : 0 ≤ (q : Int) := by omega
      obtain ⟨g, oo, e1, x, hxk, _, cs, hcs, hV⟩ := row_at (HR0.out.below kept_field (hb.mono hB)) (q := q) (by rw [← hn0.out]; exact hlt)
      obtain ⟨rfl, i1, _⟩ := hV
      subst e1
      have d0 : wr.cell? ⟨g, oo + q * 3, none⟩ = some _ := hcs.at0 _ rfl
      have d1 : wr.cell? ⟨g, oo + q * 3 + 1, none⟩ = some _ := hcs.at 1 _ rfl
      have d2 : wr.cell? ⟨g, oo + q * 3 + 2, none⟩ = some _ := hcs.at 2 _ rfl
      obtain ⟨V1, hV1⟩ : ∃ W, W = wr.alloc (.cells #[.int .i64 x.id, .string (strL x.name), .int .i64 x.bits] 112) := ⟨_, rfl⟩
      have hb1 : Below wr.heap.size wr V1 := by rw [hV1]; exact (Below.refl _ _).alloc (Nat.le_refl _) _
      have hz1 : V1.heap.size = wr.heap.size + 1 := by rw [hV1]; simp
      have g0 : V1.cell? ⟨wr.heap.size, 0, none⟩ = some (.int .i64 x.id) := by rw [hV1, World.cell?_alloc_new]; rfl
      have l0 : V1.cell? ⟨w.heap.size + 2, 0, none⟩ = some (.slice A9 q c9) := blk_cell ((hb1.block _ (by omega)).trans hbl) 0 _ rfl
      have HOW := Lib.hid (own_belowG ho hb1)
      have HV1 := Lib.hid hV1
      have HB1 := Lib.hid hb1
      have HXK := Lib.hid hxk
      have hgl : wr.heap.size < V1.heap.size := by omega
      clear hb hs hbx hbl ho hV1 hb1 hxk hcs hrs1 hz1
      go_upto_region 5 with fail
      rw [← HV1.out]
      clear d0 d1 d2
      go_wp2_with (at_builtin; go_loud (refine wpList_append_own _ rfl (.tmp 24) (.tmp 27) 57 rfl W0.heap.size 3 i0 _ 1 8 Tryz.underlying57 HI.out HZ.out HY1.out HY2.out rfl (by decide) _ q _ rfl (World.ownsRow.alloc HOW.out _) ⟨V1.heap.size, 0, none⟩ 1 1 [.int .i64 x.id] rfl rfl (World.news_of_block (cs := #[.int .i64 x.id]) (t := 3) (fr := (0, 0)) (heap_alloc_new V1 _)) (by intro u hu; simp at hu; rw [hu]; rfl) (by unfold maxLen; omega) (by omega) (by simp <;> omega) ?_; intro v4 w4 hO4 hg4 hnil4; obtain ⟨Az, cz, rfl⟩ := own_shapeH hO4; have HO4 := Lib.hid hO4; have HG4 := Lib.hid hg4; have hge4 : ∀ j, Value.ownBlock (.slice A9 q c9) = some j → W0.heap.size ≤ j := (fun j hj => own_block_geG HOW.out hj); have hV1s := hg4.size; have hl4 : w4.heap[w.heap.size + 2]? = some (.cells #[.slice A9 q c9, .slice none 0 0, .slice none 0 0, .slice none 0 0, .slice none 0 0, .slice none 0 0] 234 (0, 0)) := (by rw [hg4.block _ (by simp <;> omega) (fun e => by have := hge4 _ e.symm; omega), ((Below.refl V1.heap.size V1).alloc (Nat.le_refl _) _).block _ (by omega), HB1.out.block _ (by omega)]; exact HBL.out); have HL4 := Lib.hid hl4; have m4 : w4.cell? ⟨w.heap.size + 2, 0, none⟩ = some (.slice A9 q c9) := blk_cell hl4 0 _ rfl; have f4 := blk_froz hl4 0; clear hO4 hg4 hnil4 hl4))
      go_roundw
      case rel =>
        go_light
        have hgb : Below W0.heap.size wr w4 := ((HB1.out.mono hszP).alloc (by omega) _).grown HG4.out (by simp <;> omega) hge4
        have hgs : Below (W0.heap.size) wr w4 := hgb
        have hst := blk_set HL4.out 0 (.slice Az (q + 1) cz)
        have hbs : ∀ k', k' < W0.heap.size → k' ≠ w.heap.size + 2 → (w4.setCell ⟨w.heap.size + 2, 0, none⟩ (.slice Az (q + 1) cz)).heap[k']? = wr.heap[k']? := fun k' h1 h2 => by rw [(grown_set w4 (w.heap.size + 2) 0 (.slice Az (q + 1) cz)).block k' (by have := hgb.size; omega) (fun e => h2 (by injection e)), hgb.block k' h1]
        have hzz : (w4.setCell ⟨w.heap.size + 2, 0, none⟩ (.slice Az (q + 1) cz)).heap.size = w4.heap.size := by simp [World.setCell]
        refine ⟨q + 1, by omega, by simp, HB.out.trans ((hgb.mono (by omega)).trans (Below.setCell (Below.refl _ _) (p := ⟨w.heap.size + 2, 0, none⟩) (by show w.heap.size ≤ w.heap.size + 2; omega) _)), ⟨by rw [hzz]; have := hgb.size; have := HS.out.size; omega, fun k' h1 h2 => by rw [hbs k' h2 (by omega)]; exact HS.out.blk k' h1 h2⟩, by rw [hbs _ (by omega) (by omega)]; exact HBX.out, (.slice Az (q + 1) cz), hst, by rw [hbs _ (by omega) (by omega)]; exact HRS1.out, ?_⟩
        rw [take_ids HXK.out]
        exact World.ownsRow.kept HO4.out (grown_set w4 (w.heap.size + 2) 0 (.slice Az (q + 1) cz)) (by
          cases e : Value.ownBlock (.slice Az (q + 1) cz) with
          | none => exact .inl rfl
          | some j => exact .inr fun e2 => by have := (World.ownsRow.lt HO4.out j e).1; injection e2 with e2; omega)
      case measure => simp [intOf]; omega
    · have hkI : ¬ (q : Int) < (n0 : Int) := by omega
      obtain rfl : n0 = q := by omega
      obtain ⟨B0, e0, hBe⟩ : ∃ B' e', (Value.slice A9 n0 c9) = .slice B' n0 e' := ⟨_, _, rfl⟩
      rw [hBe] at hbl ho
      clear hBe HO HBL
      have HI0 := Lib.hid (int_own (by rw [List.length_map]; exact hn0.out) ho (fun y hy => by
        obtain ⟨x, hx, rfl⟩ := List.mem_map.1 hy
        exact RowV.all HR0.out (Q := fun x => I64 x.id) (fun _ _ _ _ h => by obtain ⟨rfl, i1, _⟩ := h; exact i1) x hx))
      obtain ⟨W1, hWn⟩ : ∃ x, x = wr := ⟨_, rfl⟩
      subst hWn
      have HB1 := HB
      have HBX1 := HBX
      have HRS1 := HRS1
      have HS1 := HS
      have HBL1 := Lib.hid hbl
      have HRow0 := HI0
      have hszW1 := hsz
      have hszP1 := hszP
      clear HB HBX HRS1 HS HI0 hb hs hbx hbl hrs1 ho hsz hszP hkI
      have c1' : W1.cell? ⟨w.heap.size, 1, none⟩ = some (.slice A1 n1 c1) := blk_cell HBX1.out 1 _ rfl
      go_wp2_with fail
      go_loopw [34] (fun i W => ∃ q : Nat, q ≤ n1 ∧ i = .int .i64 q ∧ Below w.heap.size w W ∧ SameB (w.heap.size + 3) W1.heap.size W1 W ∧ W.heap[w.heap.size]? = some (.cells #[.slice A0 n0 c0, .slice A1 n1 c1, .slice A2 n2 c2, .slice A3 n3 c3, .slice A4 n4 c4, s5, .slice A6 n6 c6, s7, s8, s9] 36 (0, 0)) ∧ ∃ v, W.heap[w.heap.size + 2]? = some (.cells #[.slice B0 n0 e0, v, .slice none 0 0, .slice none 0 0, .slice none 0 0, .slice none 0 0] 234 (0, 0)) ∧ W.heap[w.heap.size + 1]? = some (.cells #[.slice none 0 0, .slice none 0 0, .slice none 0 0, .slice none 0 0, .slice none 0 0, .slice none 0 0] 234 (0, 0)) ∧ W.ownsRow W1.heap.size 3 1 v q (intCells ((hs.map (·.id)).take q))) (fun i _ => n1 - (intOf i).toNat)
      case atStart => exact ⟨0, by omega, rfl, HB1.out, .refl (Nat.le_refl _), HBX1.out, _, HBL1.out, HRS1.out, World.ownsRow_nil _ _ _ _⟩
      case round =>
        obtain ⟨q, hq, rfl, hb, hs, hbx, v0, hbl, hrs1, ho⟩ := hrel
        obtain ⟨A9, c9, rfl⟩ := own_shapeH ho
        have HB := Lib.hid hb
        have HS := Lib.hid hs
        have HBX := Lib.hid hbx
        have HRS1 := Lib.hid hrs1
        have HO := Lib.hid ho
        have HBL := Lib.hid hbl
        have hsz : w.heap.size + 3 ≤ wr.heap.size := by have := hs.size; omega
        have hszP : W1.heap.size ≤ wr.heap.size := hs.size
        by_cases hlt : q < n1
        · have hkI : (q : Int) < (n1 : Int) := by omega
          have hkc : (q : Int) < (c1 : Int) := by omega
          have hk0 : 0 ≤ (q : Int) := by omega
          obtain ⟨g, oo, e1, x, hxk, _, cs, hcs, hV⟩ := row_at (HR1.out.below kept_header (hb.mono hB)) (q := q) (by rw [← hn1.out]; exact hlt)
          obtain ⟨v, rfl, i1, _, rv⟩ := hV
          subst e1
          obtain ⟨Av, nv, cv, rfl, _⟩ := rv.parts
          have d0 : wr.cell? ⟨g, oo + q * 3, none⟩ = some _ := hcs.at0 _ rfl
          have d1 : wr.cell? ⟨g, oo + q * 3 + 1, none⟩ = some _ := hcs.at 1 _ rfl
          have d2 : wr.cell? ⟨g, oo + q * 3 + 2, none⟩ = some _ := hcs.at 2 _ rfl
          obtain ⟨V1, hV1⟩ : ∃ W, W = wr.alloc (.cells #[.int .i64 x.id, .string (strL x.name), .slice Av nv cv] 114) := ⟨_, rfl⟩
          have hb1 : Below wr.heap.size wr V1 := by rw [hV1]; exact (Below.refl _ _).alloc (Nat.le_refl _) _
          have hz1 : V1.heap.size = wr.heap.size + 1 := by rw [hV1]; simp
          have g0 : V1.cell? ⟨wr.heap.size, 0, none⟩ = some (.int .i64 x.id) := by rw [hV1, World.cell?_alloc_new]; rfl
          have l0 : V1.cell? ⟨w.heap.size + 2, 1, none⟩ = some (.slice A9 q c9) := blk_cell ((hb1.block _ (by omega)).trans hbl) 1 _ rfl
          have HOW := Lib.hid (own_belowG ho hb1)
          have HV1 := Lib.hid hV1
          have HB1 := Lib.hid hb1
          have HXK := Lib.hid hxk
          have hgl : wr.heap.size < V1.heap.size := by omega
          clear hb hs hbx hbl ho hV1 hb1 hxk hcs hrs1 hz1
          go_upto_region 10 with fail
          rw [← HV1.out]
          clear d0 d1 d2
          go_wp2_with (at_builtin; go_loud (refine wpList_append_own _ rfl (.tmp 39) (.tmp 42) 57 rfl W1.heap.size 3 i0 _ 1 8 Tryz.underlying57 HI.out HZ.out HY1.out HY2.out rfl (by decide) _ q _ rfl (World.ownsRow.alloc HOW.out _) ⟨V1.heap.size, 0, none⟩ 1 1 [.int .i64 x.id] rfl rfl (World.news_of_block (cs := #[.int .i64 x.id]) (t := 3) (fr := (0, 0)) (heap_alloc_new V1 _)) (by intro u hu; simp at hu; rw [hu]; rfl) (by unfold maxLen; omega) (by omega) (by simp <;> omega) ?_; intro v4 w4 hO4 hg4 hnil4; obtain ⟨Az, cz, rfl⟩ := own_shapeH hO4; have HO4 := Lib.hid hO4; have HG4 := Lib.hid hg4; have hge4 : ∀ j, Value.ownBlock (.slice A9 q c9) = some j → W1.heap.size ≤ j := (fun j hj => own_block_geG HOW.out hj); have hV1s := hg4.size; have hl4 : w4.heap[w.heap.size + 2]? = some (.cells #[.slice B0 n0 e0, .slice A9 q c9, .slice none 0 0, .slice none 0 0, .slice none 0 0, .slice none 0 0] 234 (0, 0)) := (by rw [hg4.block _ (by simp <;> omega) (fun e => by have := hge4 _ e.symm; omega), ((Below.refl V1.heap.size V1).alloc (Nat.le_refl _) _).block _ (by omega), HB1.out.block _ (by omega)]; exact HBL.out); have HL4 := Lib.hid hl4; have m4 : w4.cell? ⟨w.heap.size + 2, 1, none⟩ = some (.slice A9 q c9) := blk_cell hl4 1 _ rfl; have f4 := blk_froz hl4 1; clear hO4 hg4 hnil4 hl4))
          go_roundw
          case rel =>
            go_light
            have hgb : Below W1.heap.size wr w4 := ((HB1.out.mono hszP).alloc (by omega) _).grown HG4.out (by simp <;> omega) hge4
            have hgs : Below (W1.heap.size) wr w4 := hgb
            have hst := blk_set HL4.out 1 (.slice Az (q + 1) cz)
            have hbs : ∀ k', k' < W1.heap.size → k' ≠ w.heap.size + 2 → (w4.setCell ⟨w.heap.size + 2, 1, none⟩ (.slice Az (q + 1) cz)).heap[k']? = wr.heap[k']? := fun k' h1 h2 => by rw [(grown_set w4 (w.heap.size + 2) 1 (.slice Az (q + 1) cz)).block k' (by have := hgb.size; omega) (fun e => h2 (by injection e)), hgb.block k' h1]
            have hzz : (w4.setCell ⟨w.heap.size + 2, 1, none⟩ (.slice Az (q + 1) cz)).heap.size = w4.heap.size := by simp [World.setCell]
            refine ⟨q + 1, by omega, by simp, HB.out.trans ((hgb.mono (by omega)).trans (Below.setCell (Below.refl _ _) (p := ⟨w.heap.size + 2, 1, none⟩) (by show w.heap.size ≤ w.heap.size + 2; omega) _)), ⟨by rw [hzz]; have := hgb.size; have := HS.out.size; omega, fun k' h1 h2 => by rw [hbs k' h2 (by omega)]; exact HS.out.blk k' h1 h2⟩, by rw [hbs _ (by omega) (by omega)]; exact HBX.out, (.slice Az (q + 1) cz), hst, by rw [hbs _ (by omega) (by omega)]; exact HRS1.out, ?_⟩
            rw [take_ids HXK.out]
            exact World.ownsRow.kept HO4.out (grown_set w4 (w.heap.size + 2) 1 (.slice Az (q + 1) cz)) (by
              cases e : Value.ownBlock (.slice Az (q + 1) cz) with
              | none => exact .inl rfl
              | some j => exact .inr fun e2 => by have := (World.ownsRow.lt HO4.out j e).1; injection e2 with e2; omega)
          case measure => simp [intOf]; omega
        · have hkI : ¬ (q : Int) < (n1 : Int) := by omega
          obtain rfl : n1 = q := by omega
          obtain ⟨B1, e1, hBe⟩ : ∃ B' e', (Value.slice A9 n1 c9) = .slice B' n1 e' := ⟨_, _, rfl⟩
          rw [hBe] at hbl ho
          clear hBe HO HBL
          have HI1 := Lib.hid (int_own (by rw [List.length_map]; exact hn1.out) ho (fun y hy => by
            obtain ⟨x, hx, rfl⟩ := List.mem_map.1 hy
            exact RowV.all HR1.out (Q := fun x => I64 x.id) (fun _ _ _ _ h => by obtain ⟨v, rfl, i1, _⟩ := h; exact i1) x hx))
          obtain ⟨W2, hWn⟩ : ∃ x, x = wr := ⟨_, rfl⟩
          subst hWn
          have HB2 := HB
          have HBX2 := HBX
          have HRS2 := HRS1
          have HS2 := HS
          have HBL2 := Lib.hid hbl
          have HRow1 := HI1
          have hszW2 := hsz
          have hszP2 := hszP
          have HRow0 := Lib.hid (HRow0.out.kept (HS2.out.narrow (by omega) (by omega)))
          clear HB HBX HRS1 HS HI1 hb hs hbx hbl hrs1 ho hsz hszP hkI
          have c2' : W2.cell? ⟨w.heap.size, 2, none⟩ = some (.slice A2 n2 c2) := blk_cell HBX2.out 2 _ rfl
          go_wp2_with fail
          go_loopw [49] (fun i W => ∃ q : Nat, q ≤ n2 ∧ i = .int .i64 q ∧ Below w.heap.size w W ∧ SameB (w.heap.size + 3) W2.heap.size W2 W ∧ W.heap[w.heap.size]? = some (.cells #[.slice A0 n0 c0, .slice A1 n1 c1, .slice A2 n2 c2, .slice A3 n3 c3, .slice A4 n4 c4, s5, .slice A6 n6 c6, s7, s8, s9] 36 (0, 0)) ∧ ∃ v, W.heap[w.heap.size + 2]? = some (.cells #[.slice B0 n0 e0, .slice B1 n1 e1, v, .slice none 0 0, .slice none 0 0, .slice none 0 0] 234 (0, 0)) ∧ W.heap[w.heap.size + 1]? = some (.cells #[.slice none 0 0, .slice none 0 0, .slice none 0 0, .slice none 0 0, .slice none 0 0, .slice none 0 0] 234 (0, 0)) ∧ W.ownsRow W2.heap.size 3 1 v q (intCells ((ss.map (·.id)).take q))) (fun i _ => n2 - (intOf i).toNat)
          case atStart => exact ⟨0, by omega, rfl, HB2.out, .refl (Nat.le_refl _), HBX2.out, _, HBL2.out, HRS2.out, World.ownsRow_nil _ _ _ _⟩
          case round =>
            obtain ⟨q, hq, rfl, hb, hs, hbx, v0, hbl, hrs1, ho⟩ := hrel
            obtain ⟨A9, c9, rfl⟩ := own_shapeH ho
            have HB := Lib.hid hb
            have HS := Lib.hid hs
            have HBX := Lib.hid hbx
            have HRS1 := Lib.hid hrs1
            have HO := Lib.hid ho
            have HBL := Lib.hid hbl
            have hsz : w.heap.size + 3 ≤ wr.heap.size := by have := hs.size; omega
            have hszP : W2.heap.size ≤ wr.heap.size := hs.size
            by_cases hlt : q < n2
            · have hkI : (q : Int) < (n2 : Int) := by omega
              have hkc : (q : Int) < (c2 : Int) := by omega
              have hk0 : 0 ≤ (q : Int) := by omega
              obtain ⟨g, oo, e1, x, hxk, _, cs, hcs, hV⟩ := row_at (HR2.out.below kept_state (hb.mono hB)) (q := q) (by rw [← hn2.out]; exact hlt)
              obtain ⟨v, rfl, i1, _, _, rv, _⟩ := hV
              subst e1
              obtain ⟨Av, nv, cv, rfl, _⟩ := rv.parts
              have d0 : wr.cell? ⟨g, oo + q * 5, none⟩ = some _ := hcs.at0 _ rfl
              have d1 : wr.cell? ⟨g, oo + q * 5 + 1, none⟩ = some _ := hcs.at 1 _ rfl
              have d2 : wr.cell? ⟨g, oo + q * 5 + 2, none⟩ = some _ := hcs.at 2 _ rfl
              have d3 : wr.cell? ⟨g, oo + q * 5 + 3, none⟩ = some _ := hcs.at 3 _ rfl
              have d4 : wr.cell? ⟨g, oo + q * 5 + 4, none⟩ = some _ := hcs.at 4 _ rfl
              obtain ⟨V1, hV1⟩ : ∃ W, W = wr.alloc (.cells #[.int .i64 x.id, .int .i64 x.header, .int .i64 x.select, .slice Av nv cv, .int .i64 x.dflt] 172) := ⟨_, rfl⟩
              have hb1 : Below wr.heap.size wr V1 := by rw [hV1]; exact (Below.refl _ _).alloc (Nat.le_refl _) _
              have hz1 : V1.heap.size = wr.heap.size + 1 := by rw [hV1]; simp
              have g0 : V1.cell? ⟨wr.heap.size, 0, none⟩ = some (.int .i64 x.id) := by rw [hV1, World.cell?_alloc_new]; rfl
              have l0 : V1.cell? ⟨w.heap.size + 2, 2, none⟩ = some (.slice A9 q c9) := blk_cell ((hb1.block _ (by omega)).trans hbl) 2 _ rfl
              have HOW := Lib.hid (own_belowG ho hb1)
              have HV1 := Lib.hid hV1
              have HB1 := Lib.hid hb1
              have HXK := Lib.hid hxk
              have hgl : wr.heap.size < V1.heap.size := by omega
              clear hb hs hbx hbl ho hV1 hb1 hxk hcs hrs1 hz1
              go_upto_region 15 with fail
              rw [← HV1.out]
              clear d0 d1 d2 d3 d4
              go_wp2_with (at_builtin; go_loud (refine wpList_append_own _ rfl (.tmp 54) (.tmp 57) 57 rfl W2.heap.size 3 i0 _ 1 8 Tryz.underlying57 HI.out HZ.out HY1.out HY2.out rfl (by decide) _ q _ rfl (World.ownsRow.alloc HOW.out _) ⟨V1.heap.size, 0, none⟩ 1 1 [.int .i64 x.id] rfl rfl (World.news_of_block (cs := #[.int .i64 x.id]) (t := 3) (fr := (0, 0)) (heap_alloc_new V1 _)) (by intro u hu; simp at hu; rw [hu]; rfl) (by unfold maxLen; omega) (by omega) (by simp <;> omega) ?_; intro v4 w4 hO4 hg4 hnil4; obtain ⟨Az, cz, rfl⟩ := own_shapeH hO4; have HO4 := Lib.hid hO4; have HG4 := Lib.hid hg4; have hge4 : ∀ j, Value.ownBlock (.slice A9 q c9) = some j → W2.heap.size ≤ j := (fun j hj => own_block_geG HOW.out hj); have hV1s := hg4.size; have hl4 : w4.heap[w.heap.size + 2]? = some (.cells #[.slice B0 n0 e0, .slice B1 n1 e1, .slice A9 q c9, .slice none 0 0, .slice none 0 0, .slice none 0 0] 234 (0, 0)) := (by rw [hg4.block _ (by simp <;> omega) (fun e => by have := hge4 _ e.symm; omega), ((Below.refl V1.heap.size V1).alloc (Nat.le_refl _) _).block _ (by omega), HB1.out.block _ (by omega)]; exact HBL.out); have HL4 := Lib.hid hl4; have m4 : w4.cell? ⟨w.heap.size + 2, 2, none⟩ = some (.slice A9 q c9) := blk_cell hl4 2 _ rfl; have f4 := blk_froz hl4 2; clear hO4 hg4 hnil4 hl4))
              go_roundw
              case rel =>
                go_light
                have hgb : Below W2.heap.size wr w4 := ((HB1.out.mono hszP).alloc (by omega) _).grown HG4.out (by simp <;> omega) hge4
                have hgs : Below (W2.heap.size) wr w4 := hgb
                have hst := blk_set HL4.out 2 (.slice Az (q + 1) cz)
                have hbs : ∀ k', k' < W2.heap.size → k' ≠ w.heap.size + 2 → (w4.setCell ⟨w.heap.size + 2, 2, none⟩ (.slice Az (q + 1) cz)).heap[k']? = wr.heap[k']? := fun k' h1 h2 => by rw [(grown_set w4 (w.heap.size + 2) 2 (.slice Az (q + 1) cz)).block k' (by have := hgb.size; omega) (fun e => h2 (by injection e)), hgb.block k' h1]
                have hzz : (w4.setCell ⟨w.heap.size + 2, 2, none⟩ (.slice Az (q + 1) cz)).heap.size = w4.heap.size := by simp [World.setCell]
                refine ⟨q + 1, by omega, by simp, HB.out.trans ((hgb.mono (by omega)).trans (Below.setCell (Below.refl _ _) (p := ⟨w.heap.size + 2, 2, none⟩) (by show w.heap.size ≤ w.heap.size + 2; omega) _)), ⟨by rw [hzz]; have := hgb.size; have := HS.out.size; omega, fun k' h1 h2 => by rw [hbs k' h2 (by omega)]; exact HS.out.blk k' h1 h2⟩, by rw [hbs _ (by omega) (by omega)]; exact HBX.out, (.slice Az (q + 1) cz), hst, by rw [hbs _ (by omega) (by omega)]; exact HRS1.out, ?_⟩
                rw [take_ids HXK.out]
                exact World.ownsRow.kept HO4.out (grown_set w4 (w.heap.size + 2) 2 (.slice Az (q + 1) cz)) (by
                  cases e : Value.ownBlock (.slice Az (q + 1) cz) with
                  | none => exact .inl rfl
                  | some j => exact .inr fun e2 => by have := (World.ownsRow.lt HO4.out j e).1; injection e2 with e2; omega)
              case measure => simp [intOf]; omega
            · have hkI : ¬ (q : Int) < (n2 : Int) := by omega
              obtain rfl : n2 = q := by omega
              obtain ⟨B2, e2, hBe⟩ : ∃ B' e', (Value.slice A9 n2 c9) = .slice B' n2 e' := ⟨_, _, rfl⟩
              rw [hBe] at hbl ho
              clear hBe HO HBL
              have HI2 := Lib.hid (int_own (by rw [List.length_map]; exact hn2.out) ho (fun y hy => by
                obtain ⟨x, hx, rfl⟩ := List.mem_map.1 hy
                exact RowV.all HR2.out (Q := fun x => I64 x.id) (fun _ _ _ _ h => by obtain ⟨v, rfl, i1, _⟩ := h; exact i1) x hx))
              obtain ⟨W3, hWn⟩ : ∃ x, x = wr := ⟨_, rfl⟩
              subst hWn
              have HB3 := HB
              have HBX3 := HBX
              have HRS3 := HRS1
              have HS3 := HS
              have HBL3 := Lib.hid hbl
              have HRow2 := HI2
              have hszW3 := hsz
              have hszP3 := hszP
              have HRow0 := Lib.hid (HRow0.out.kept (HS3.out.narrow (by omega) (by omega)))
              have HRow1 := Lib.hid (HRow1.out.kept (HS3.out.narrow (by omega) (by omega)))
              clear HB HBX HRS1 HS HI2 hb hs hbx hbl hrs1 ho hsz hszP hkI
              have c3' : W3.cell? ⟨w.heap.size, 3, none⟩ = some (.slice A3 n3 c3) := blk_cell HBX3.out 3 _ rfl
              go_wp2_with fail
              go_loopw [64] (fun i W => ∃ q : Nat, q ≤ n3 ∧ i = .int .i64 q ∧ Below w.heap.size w W ∧ SameB (w.heap.size + 3) W3.heap.size W3 W ∧ W.heap[w.heap.size]? = some (.cells #[.slice A0 n0 c0, .slice A1 n1 c1, .slice A2 n2 c2, .slice A3 n3 c3, .slice A4 n4 c4, s5, .slice A6 n6 c6, s7, s8, s9] 36 (0, 0)) ∧ ∃ v, W.heap[w.heap.size + 2]? = some (.cells #[.slice B0 n0 e0, .slice B1 n1 e1, .slice B2 n2 e2, v, .slice none 0 0, .slice none 0 0] 234 (0, 0)) ∧ W.heap[w.heap.size + 1]? = some (.cells #[.slice none 0 0, .slice none 0 0, .slice none 0 0, .slice none 0 0, .slice none 0 0, .slice none 0 0] 234 (0, 0)) ∧ W.ownsRow W3.heap.size 3 1 v q (intCells ((acs.map (·.id)).take q))) (fun i _ => n3 - (intOf i).toNat)
              case atStart => exact ⟨0, by omega, rfl, HB3.out, .refl (Nat.le_refl _), HBX3.out, _, HBL3.out, HRS3.out, World.ownsRow_nil _ _ _ _⟩
              case round =>
                obtain ⟨q, hq, rfl, hb, hs, hbx, v0, hbl, hrs1, ho⟩ := hrel
                obtain ⟨A9, c9, rfl⟩ := own_shapeH ho
                have HB := Lib.hid hb
                have HS := Lib.hid hs
                have HBX := Lib.hid hbx
                have HRS1 := Lib.hid hrs1
                have HO := Lib.hid ho
                have HBL := Lib.hid hbl
                have hsz : w.heap.size + 3 ≤ wr.heap.size := by have := hs.size; omega
                have hszP : W3.heap.size ≤ wr.heap.size := hs.size
                by_cases hlt : q < n3
                · have hkI : (q : Int) < (n3 : Int) := by omega
                  have hkc : (q : Int) < (c3 : Int) := by omega
                  have hk0 : 0 ≤ (q : Int) := by omega
                  obtain ⟨g, oo, e1, x, hxk, _, cs, hcs, hV⟩ := row_at (HR3.out.below kept_action (hb.mono hB)) (q := q) (by rw [← hn3.out]; exact hlt)
                  obtain ⟨v, u, rfl, i1, _, rv, ru, _⟩ := hV
                  subst e1
                  obtain ⟨Av, nv, cv, rfl, _⟩ := rv.parts
                  obtain ⟨Au, nu, cu, rfl, _⟩ := ru.parts
                  have d0 : wr.cell? ⟨g, oo + q * 5, none⟩ = some _ := hcs.at0 _ rfl
                  have d1 : wr.cell? ⟨g, oo + q * 5 + 1, none⟩ = some _ := hcs.at 1 _ rfl
                  have d2 : wr.cell? ⟨g, oo + q * 5 + 2, none⟩ = some _ := hcs.at 2 _ rfl
                  have d3 : wr.cell? ⟨g, oo + q * 5 + 3, none⟩ = some _ := hcs.at 3 _ rfl
                  have d4 : wr.cell? ⟨g, oo + q * 5 + 4, none⟩ = some _ := hcs.at 4 _ rfl
                  obtain ⟨V1, hV1⟩ : ∃ W, W = wr.alloc (.cells #[.int .i64 x.id, .string (strL x.name), .slice Av nv cv, .slice Au nu cu, .string (strL x.restr)] 142) := ⟨_, rfl⟩
                  have hb1 : Below wr.heap.size wr V1 := by rw [hV1]; exact (Below.refl _ _).alloc (Nat.le_refl _) _
                  have hz1 : V1.heap.size = wr.heap.size + 1 := by rw [hV1]; simp
                  have g0 : V1.cell? ⟨wr.heap.size, 0, none⟩ = some (.int .i64 x.id) := by rw [hV1, World.cell?_alloc_new]; rfl
                  have l0 : V1.cell? ⟨w.heap.size + 2, 3, none⟩ = some (.slice A9 q c9) := blk_cell ((hb1.block _ (by omega)).trans hbl) 3 _ rfl
                  have HOW := Lib.hid (own_belowG ho hb1)
                  have HV1 := Lib.hid hV1
                  have HB1 := Lib.hid hb1
                  have HXK := Lib.hid hxk
                  have hgl : wr.heap.size < V1.heap.size := by omega
                  clear hb hs hbx hbl ho hV1 hb1 hxk hcs hrs1 hz1
                  go_upto_region 20 with fail
                  rw [← HV1.out]
                  clear d0 d1 d2 d3 d4
                  go_wp2_with (at_builtin; go_loud (refine wpList_append_own _ rfl (.tmp 69) (.tmp 72) 57 rfl W3.heap.size 3 i0 _ 1 8 Tryz.underlying57 HI.out HZ.out HY1.out HY2.out rfl (by decide) _ q _ rfl (World.ownsRow.alloc HOW.out _) ⟨V1.heap.size, 0, none⟩ 1 1 [.int .i64 x.id] rfl rfl (World.news_of_block (cs := #[.int .i64 x.id]) (t := 3) (fr := (0, 0)) (heap_alloc_new V1 _)) (by intro u hu; simp at hu; rw [hu]; rfl) (by unfold maxLen; omega) (by omega) (by simp <;> omega) ?_; intro v4 w4 hO4 hg4 hnil4; obtain ⟨Az, cz, rfl⟩ := own_shapeH hO4; have HO4 := Lib.hid hO4; have HG4 := Lib.hid hg4; have hge4 : ∀ j, Value.ownBlock (.slice A9 q c9) = some j → W3.heap.size ≤ j := (fun j hj => own_block_geG HOW.out hj); have hV1s := hg4.size; have hl4 : w4.heap[w.heap.size + 2]? = some (.cells #[.slice B0 n0 e0, .slice B1 n1 e1, .slice B2 n2 e2, .slice A9 q c9, .slice none 0 0, .slice none 0 0] 234 (0, 0)) := (by rw [hg4.block _ (by simp <;> omega) (fun e => by have := hge4 _ e.symm; omega), ((Below.refl V1.heap.size V1).alloc (Nat.le_refl _) _).block _ (by omega), HB1.out.block _ (by omega)]; exact HBL.out); have HL4 := Lib.hid hl4; have m4 : w4.cell? ⟨w.heap.size + 2, 3, none⟩ = some (.slice A9 q c9) := blk_cell hl4 3 _ rfl; have f4 := blk_froz hl4 3; clear hO4 hg4 hnil4 hl4))
                  go_roundw
                  case rel =>
                    go_light
                    have hgb : Below W3.heap.size wr w4 := ((HB1.out.mono hszP).alloc (by omega) _).grown HG4.out (by simp <;> omega) hge4
                    have hgs : Below (W3.heap.size) wr w4 := hgb
                    have hst := blk_set HL4.out 3 (.slice Az (q + 1) cz)
                    have hbs : ∀ k', k' < W3.heap.size → k' ≠ w.heap.size + 2 → (w4.setCell ⟨w.heap.size + 2, 3, none⟩ (.slice Az (q + 1) cz)).heap[k']? = wr.heap[k']? := fun k' h1 h2 => by rw [(grown_set w4 (w.heap.size + 2) 3 (.slice Az (q + 1) cz)).block k' (by have := hgb.size; omega) (fun e => h2 (by injection e)), hgb.block k' h1]
                    have hzz : (w4.setCell ⟨w.heap.size + 2, 3, none⟩ (.slice Az (q + 1) cz)).heap.size = w4.heap.size := by simp [World.setCell]
                    refine ⟨q + 1, by omega, by simp, HB.out.trans ((hgb.mono (by omega)).trans (Below.setCell (Below.refl _ _) (p := ⟨w.heap.size + 2, 3, none⟩) (by show w.heap.size ≤ w.heap.size + 2; omega) _)), ⟨by rw [hzz]; have := hgb.size; have := HS.out.size; omega, fun k' h1 h2 => by rw [hbs k' h2 (by omega)]; exact HS.out.blk k' h1 h2⟩, by rw [hbs _ (by omega) (by omega)]; exact HBX.out, (.slice Az (q + 1) cz), hst, by rw [hbs _ (by omega) (by omega)]; exact HRS1.out, ?_⟩
                    rw [take_ids HXK.out]
                    exact World.ownsRow.kept HO4.out (grown_set w4 (w.heap.size + 2) 3 (.slice Az (q + 1) cz)) (by
                      cases e : Value.ownBlock (.slice Az (q + 1) cz) with
                      | none => exact .inl rfl
                      | some j => exact .inr fun e2 => by have := (World.ownsRow.lt HO4.out j e).1; injection e2 with e2; omega)
                  case measure => simp [intOf]; omega
                · have hkI : ¬ (q : Int) < (n3 : Int) := by omega
                  obtain rfl : n3 = q := by omega
                  obtain ⟨B3, e3, hBe⟩ : ∃ B' e', (Value.slice A9 n3 c9) = .slice B' n3 e' := ⟨_, _, rfl⟩
                  rw [hBe] at hbl ho
                  clear hBe HO HBL
                  have HI3 := Lib.hid (int_own (by rw [List.length_map]; exact hn3.out) ho (fun y hy => by
                    obtain ⟨x, hx, rfl⟩ := List.mem_map.1 hy
                    exact RowV.all HR3.out (Q := fun x => I64 x.id) (fun _ _ _ _ h => by obtain ⟨v, u, rfl, i1, _⟩ := h; exact i1) x hx))
                  obtain ⟨W4, hWn⟩ : ∃ x, x = wr := ⟨_, rfl⟩
                  subst hWn
                  have HB4 := HB
                  have HBX4 := HBX
                  have HRS4 := HRS1
                  have HS4 := HS
                  have HBL4 := Lib.hid hbl
                  have HRow3 := HI3
                  have hszW4 := hsz
                  have hszP4 := hszP
                  have HRow0 := Lib.hid (HRow0.out.kept (HS4.out.narrow (by omega) (by omega)))
                  have HRow1 := Lib.hid (HRow1.out.kept (HS4.out.narrow (by omega) (by omega)))
                  have HRow2 := Lib.hid (HRow2.out.kept (HS4.out.narrow (by omega) (by omega)))
                  clear HB HBX HRS1 HS HI3 hb hs hbx hbl hrs1 ho hsz hszP hkI
                  have c4' : W4.cell? ⟨w.heap.size, 4, none⟩ = some (.slice A4 n4 c4) := blk_cell HBX4.out 4 _ rfl
                  go_wp2_with fail
                  go_loopw [79] (fun i W => ∃ q : Nat, q ≤ n4 ∧ i = .int .i64 q ∧ Below w.heap.size w W ∧ SameB (w.heap.size + 3) W4.heap.size W4 W ∧ W.heap[w.heap.size]? = some (.cells #[.slice A0 n0 c0, .slice A1 n1 c1, .slice A2 n2 c2, .slice A3 n3 c3, .slice A4 n4 c4, s5, .slice A6 n6 c6, s7, s8, s9] 36 (0, 0)) ∧ ∃ v, W.heap[w.heap.size + 2]? = some (.cells #[.slice B0 n0 e0, .slice B1 n1 e1, .slice B2 n2 e2, .slice B3 n3 e3, v, .slice none 0 0] 234 (0, 0)) ∧ W.heap[w.heap.size + 1]? = some (.cells #[.slice none 0 0, .slice none 0 0, .slice none 0 0, .slice none 0 0, .slice none 0 0, .slice none 0 0] 234 (0, 0)) ∧ W.ownsRow W4.heap.size 3 1 v q (intCells ((ts.map (·.id)).take q))) (fun i _ => n4 - (intOf i).toNat)
                  case atStart => exact ⟨0, by omega, rfl, HB4.out, .refl (Nat.le_refl _), HBX4.out, _, HBL4.out, HRS4.out, World.ownsRow_nil _ _ _ _⟩
                  case round =>
                    obtain ⟨q, hq, rfl, hb, hs, hbx, v0, hbl, hrs1, ho⟩ := hrel
                    obtain ⟨A9, c9, rfl⟩ := own_shapeH ho
                    have HB := Lib.hid hb
                    have HS := Lib.hid hs
                    have HBX := Lib.hid hbx
                    have HRS1 := Lib.hid hrs1
                    have HO := Lib.hid ho
                    have HBL := Lib.hid hbl
                    have hsz : w.heap.size + 3 ≤ wr.heap.size := by have := hs.size; omega
                    have hszP : W4.heap.size ≤ wr.heap.size := hs.size
                    by_cases hlt : q < n4
                    · have hkI : (q : Int) < (n4 : Int) := by omega
                      have hkc : (q : Int) < (c4 : Int) := by omega
                      have hk0 : 0 ≤ (q : Int) := by omega
                      obtain ⟨g, oo, e1, x, hxk, _, cs, hcs, hV⟩ := row_at (HR4.out.below kept_table (hb.mono hB)) (q := q) (by rw [← hn4.out]; exact hlt)
                      obtain ⟨v, u, t, rfl, i1, _, rv, ru, _, rt, _⟩ := hV
                      subst e1
                      obtain ⟨Av, nv, cv, rfl, _⟩ := rv.parts
                      obtain ⟨Au, nu, cu, rfl, _⟩ := ru.parts
                      obtain ⟨At, nt, ct, rfl, _⟩ := rt.parts
                      have d0 : wr.cell? ⟨g, oo + q * 8, none⟩ = some _ := hcs.at0 _ rfl
                      have d1 : wr.cell? ⟨g, oo + q * 8 + 1, none⟩ = some _ := hcs.at 1 _ rfl
                      have d2 : wr.cell? ⟨g, oo + q * 8 + 2, none⟩ = some _ := hcs.at 2 _ rfl
                      have d3 : wr.cell? ⟨g, oo + q * 8 + 3, none⟩ = some _ := hcs.at 3 _ rfl
                      have d4 : wr.cell? ⟨g, oo + q * 8 + 4, none⟩ = some _ := hcs.at 4 _ rfl
                      have d5 : wr.cell? ⟨g, oo + q * 8 + 5, none⟩ = some _ := hcs.at 5 _ rfl
                      have d6 : wr.cell? ⟨g, oo + q * 8 + 6, none⟩ = some _ := hcs.at 6 _ rfl
                      have d7 : wr.cell? ⟨g, oo + q * 8 + 7, none⟩ = some _ := hcs.at 7 _ rfl
                      obtain ⟨V1, hV1⟩ : ∃ W, W = wr.alloc (.cells #[.int .i64 x.id, .string (strL x.name), .slice Av nv cv, .slice Au nu cu, .int .i64 x.dflt, .slice At nt ct, .int .i64 x.size, .string (strL x.restr)] 59) := ⟨_, rfl⟩
                      have hb1 : Below wr.heap.size wr V1 := by rw [hV1]; exact (Below.refl _ _).alloc (Nat.le_refl _) _
                      have hz1 : V1.heap.size = wr.heap.size + 1 := by rw [hV1]; simp
                      have g0 : V1.cell? ⟨wr.heap.size, 0, none⟩ = some (.int .i64 x.id) := by rw [hV1, World.cell?_alloc_new]; rfl
                      have l0 : V1.cell? ⟨w.heap.size + 2, 4, none⟩ = some (.slice A9 q c9) := blk_cell ((hb1.block _ (by omega)).trans hbl) 4 _ rfl
                      have HOW := Lib.hid (own_belowG ho hb1)
                      have HV1 := Lib.hid hV1
                      have HB1 := Lib.hid hb1
                      have HXK := Lib.hid hxk
                      have hgl : wr.heap.size < V1.heap.size := by omega
                      clear hb hs hbx hbl ho hV1 hb1 hxk hcs hrs1 hz1
                      go_upto_region 25 with fail
                      rw [← HV1.out]
                      clear d0 d1 d2 d3 d4 d5 d6 d7
                      go_wp2_with (at_builtin; go_loud (refine wpList_append_own _ rfl (.tmp 84) (.tmp 87) 57 rfl W4.heap.size 3 i0 _ 1 8 Tryz.underlying57 HI.out HZ.out HY1.out HY2.out rfl (by decide) _ q _ rfl (World.ownsRow.alloc HOW.out _) ⟨V1.heap.size, 0, none⟩ 1 1 [.int .i64 x.id] rfl rfl (World.news_of_block (cs := #[.int .i64 x.id]) (t := 3) (fr := (0, 0)) (heap_alloc_new V1 _)) (by intro u hu; simp at hu; rw [hu]; rfl) (by unfold maxLen; omega) (by omega) (by simp <;> omega) ?_; intro v4 w4 hO4 hg4 hnil4; obtain ⟨Az, cz, rfl⟩ := own_shapeH hO4; have HO4 := Lib.hid hO4; have HG4 := Lib.hid hg4; have hge4 : ∀ j, Value.ownBlock (.slice A9 q c9) = some j → W4.heap.size ≤ j := (fun j hj => own_block_geG HOW.out hj); have hV1s := hg4.size; have hl4 : w4.heap[w.heap.size + 2]? = some (.cells #[.slice B0 n0 e0, .slice B1 n1 e1, .slice B2 n2 e2, .slice B3 n3 e3, .slice A9 q c9, .slice none 0 0] 234 (0, 0)) := (by rw [hg4.block _ (by simp <;> omega) (fun e => by have := hge4 _ e.symm; omega), ((Below.refl V1.heap.size V1).alloc (Nat.le_refl _) _).block _ (by omega), HB1.out.block _ (by omega)]; exact HBL.out); have HL4 := Lib.hid hl4; have m4 : w4.cell? ⟨w.heap.size + 2, 4, none⟩ = some (.slice A9 q c9) := blk_cell hl4 4 _ rfl; have f4 := blk_froz hl4 4; clear hO4 hg4 hnil4 hl4))
                      go_roundw
                      case rel =>
                        go_light
                        have hgb : Below W4.heap.size wr w4 := ((HB1.out.mono hszP).alloc (by omega) _).grown HG4.out (by simp <;> omega) hge4
                        have hgs : Below (W4.heap.size) wr w4 := hgb
                        have hst := blk_set HL4.out 4 (.slice Az (q + 1) cz)
                        have hbs : ∀ k', k' < W4.heap.size → k' ≠ w.heap.size + 2 → (w4.setCell ⟨w.heap.size + 2, 4, none⟩ (.slice Az (q + 1) cz)).heap[k']? = wr.heap[k']? := fun k' h1 h2 => by rw [(grown_set w4 (w.heap.size + 2) 4 (.slice Az (q + 1) cz)).block k' (by have := hgb.size; omega) (fun e => h2 (by injection e)), hgb.block k' h1]
                        have hzz : (w4.setCell ⟨w.heap.size + 2, 4, none⟩ (.slice Az (q + 1) cz)).heap.size = w4.heap.size := by simp [World.setCell]
                        refine ⟨q + 1, by omega, by simp, HB.out.trans ((hgb.mono (by omega)).trans (Below.setCell (Below.refl _ _) (p := ⟨w.heap.size + 2, 4, none⟩) (by show w.heap.size ≤ w.heap.size + 2; omega) _)), ⟨by rw [hzz]; have := hgb.size; have := HS.out.size; omega, fun k' h1 h2 => by rw [hbs k' h2 (by omega)]; exact HS.out.blk k' h1 h2⟩, by rw [hbs _ (by omega) (by omega)]; exact HBX.out, (.slice Az (q + 1) cz), hst, by rw [hbs _ (by omega) (by omega)]; exact HRS1.out, ?_⟩
                        rw [take_ids HXK.out]
                        exact World.ownsRow.kept HO4.out (grown_set w4 (w.heap.size + 2) 4 (.slice Az (q + 1) cz)) (by
                          cases e : Value.ownBlock (.slice Az (q + 1) cz) with
                          | none => exact .inl rfl
                          | some j => exact .inr fun e2 => by have := (World.ownsRow.lt HO4.out j e).1; injection e2 with e2; omega)
                      case measure => simp [intOf]; omega
                    · have hkI : ¬ (q : Int) < (n4 : Int) := by omega
                      obtain rfl : n4 = q := by omega
                      obtain ⟨B4, e4, hBe⟩ : ∃ B' e', (Value.slice A9 n4 c9) = .slice B' n4 e' := ⟨_, _, rfl⟩
                      rw [hBe] at hbl ho
                      clear hBe HO HBL
                      have HI4 := Lib.hid (int_own (by rw [List.length_map]; exact hn4.out) ho (fun y hy => by
                        obtain ⟨x, hx, rfl⟩ := List.mem_map.1 hy
                        exact RowV.all HR4.out (Q := fun x => I64 x.id) (fun _ _ _ _ h => by obtain ⟨v, u, t, rfl, i1, _, rt, _⟩ := h; exact i1) x hx))
                      obtain ⟨W5, hWn⟩ : ∃ x, x = wr := ⟨_, rfl⟩
                      subst hWn
                      have HB5 := HB
                      have HBX5 := HBX
                      have HRS5 := HRS1
                      have HS5 := HS
                      have HBL5 := Lib.hid hbl
                      have HRow4 := HI4
                      have hszW5 := hsz
                      have hszP5 := hszP
                      have HRow0 := Lib.hid (HRow0.out.kept (HS5.out.narrow (by omega) (by omega)))
                      have HRow1 := Lib.hid (HRow1.out.kept (HS5.out.narrow (by omega) (by omega)))
                      have HRow2 := Lib.hid (HRow2.out.kept (HS5.out.narrow (by omega) (by omega)))
                      have HRow3 := Lib.hid (HRow3.out.kept (HS5.out.narrow (by omega) (by omega)))
                      clear HB HBX HRS1 HS HI4 hb hs hbx hbl hrs1 ho hsz hszP hkI
                      have c6' : W5.cell? ⟨w.heap.size, 6, none⟩ = some (.slice A6 n6 c6) := blk_cell HBX5.out 6 _ rfl
                      go_wp2_with fail
                      go_loopw [94] (fun i W => ∃ q : Nat, q ≤ n6 ∧ i = .int .i64 q ∧ Below w.heap.size w W ∧ SameB (w.heap.size + 3) W5.heap.size W5 W ∧ W.heap[w.heap.size]? = some (.cells #[.slice A0 n0 c0, .slice A1 n1 c1, .slice A2 n2 c2, .slice A3 n3 c3, .slice A4 n4 c4, s5, .slice A6 n6 c6, s7, s8, s9] 36 (0, 0)) ∧ ∃ v, W.heap[w.heap.size + 2]? = some (.cells #[.slice B0 n0 e0, .slice B1 n1 e1, .slice B2 n2 e2, .slice B3 n3 e3, .slice B4 n4 e4, v] 234 (0, 0)) ∧ W.heap[w.heap.size + 1]? = some (.cells #[.slice none 0 0, .slice none 0 0, .slice none 0 0, .slice none 0 0, .slice none 0 0, .slice none 0 0] 234 (0, 0)) ∧ W.ownsRow W5.heap.size 3 1 v q (intCells ((rs.map (·.id)).take q))) (fun i _ => n6 - (intOf i).toNat)
                      case atStart => exact ⟨0, by omega, rfl, HB5.out, .refl (Nat.le_refl _), HBX5.out, _, HBL5.out, HRS5.out, World.ownsRow_nil _ _ _ _⟩
                      case round =>
                        obtain ⟨q, hq, rfl, hb, hs, hbx, v0, hbl, hrs1, ho⟩ := hrel
                        obtain ⟨A9, c9, rfl⟩ := own_shapeH ho
                        have HB := Lib.hid hb
                        have HS := Lib.hid hs
                        have HBX := Lib.hid hbx
                        have HRS1 := Lib.hid hrs1
                        have HO := Lib.hid ho
                        have HBL := Lib.hid hbl
                        have hsz : w.heap.size + 3 ≤ wr.heap.size := by have := hs.size; omega
                        have hszP : W5.heap.size ≤ wr.heap.size := hs.size
                        by_cases hlt : q < n6
                        · have hkI : (q : Int) < (n6 : Int) := by omega
                          have hkc : (q : Int) < (c6 : Int) := by omega
                          have hk0 : 0 ≤ (q : Int) := by omega
                          obtain ⟨g, oo, e1, x, hxk, _, cs, hcs, hV⟩ := row_at (HR6.out.below kept_role (hb.mono hB)) (q := q) (by rw [← hn6.out]; exact hlt)
                          obtain ⟨v, u, rfl, i1, _, rv, ru, _⟩ := hV
                          subst e1
                          obtain ⟨Av, nv, cv, rfl, _⟩ := rv.parts
                          obtain ⟨Au, nu, cu, rfl, _⟩ := ru.parts
                          have d0 : wr.cell? ⟨g, oo + q * 6, none⟩ = some _ := hcs.at0 _ rfl
                          have d1 : wr.cell? ⟨g, oo + q * 6 + 1, none⟩ = some _ := hcs.at 1 _ rfl
                          have d2 : wr.cell? ⟨g, oo + q * 6 + 2, none⟩ = some _ := hcs.at 2 _ rfl
                          have d3 : wr.cell? ⟨g, oo + q * 6 + 3, none⟩ = some _ := hcs.at 3 _ rfl
                          have d4 : wr.cell? ⟨g, oo + q * 6 + 4, none⟩ = some _ := hcs.at 4 _ rfl
                          have d5 : wr.cell? ⟨g, oo + q * 6 + 5, none⟩ = some _ := hcs.at 5 _ rfl
                          obtain ⟨V1, hV1⟩ : ∃ W, W = wr.alloc (.cells #[.int .i64 x.id, .string (strL x.name), .slice Av nv cv, .slice Au nu cu, .int .i64 x.quota, .bool x.audit] 183) := ⟨_, rfl⟩
                          have hb1 : Below wr.heap.size wr V1 := by rw [hV1]; exact (Below.refl _ _).alloc (Nat.le_refl _) _
                          have hz1 : V1.heap.size = wr.heap.size + 1 := by rw [hV1]; simp
                          have g0 : V1.cell? ⟨wr.heap.size, 0, none⟩ = some (.int .i64 x.id) := by rw [hV1, World.cell?_alloc_new]; rfl
                          have l0 : V1.cell? ⟨w.heap.size + 2, 5, none⟩ = some (.slice A9 q c9) := blk_cell ((hb1.block _ (by omega)).trans hbl) 5 _ rfl
                          have HOW := Lib.hid (own_belowG ho hb1)
                          have HV1 := Lib.hid hV1
                          have HB1 := Lib.hid hb1
                          have HXK := Lib.hid hxk
                          have hgl : wr.heap.size < V1.heap.size := by omega
                          clear hb hs hbx hbl ho hV1 hb1 hxk hcs hrs1 hz1
                          go_upto_region 30 with fail
                          rw [← HV1.out]
                          clear d0 d1 d2 d3 d4 d5
                          go_wp2_with (at_builtin; go_loud (refine wpList_append_own _ rfl (.tmp 99) (.tmp 102) 57 rfl W5.heap.size 3 i0 _ 1 8 Tryz.underlying57 HI.out HZ.out HY1.out HY2.out rfl (by decide) _ q _ rfl (World.ownsRow.alloc HOW.out _) ⟨V1.heap.size, 0, none⟩ 1 1 [.int .i64 x.id] rfl rfl (World.news_of_block (cs := #[.int .i64 x.id]) (t := 3) (fr := (0, 0)) (heap_alloc_new V1 _)) (by intro u hu; simp at hu; rw [hu]; rfl) (by unfold maxLen; omega) (by omega) (by simp <;> omega) ?_; intro v4 w4 hO4 hg4 hnil4; obtain ⟨Az, cz, rfl⟩ := own_shapeH hO4; have HO4 := Lib.hid hO4; have HG4 := Lib.hid hg4; have hge4 : ∀ j, Value.ownBlock (.slice A9 q c9) = some j → W5.heap.size ≤ j := (fun j hj => own_block_geG HOW.out hj); have hV1s := hg4.size; have hl4 : w4.heap[w.heap.size + 2]? = some (.cells #[.slice B0 n0 e0, .slice B1 n1 e1, .slice B2 n2 e2, .slice B3 n3 e3, .slice B4 n4 e4, .slice A9 q c9] 234 (0, 0)) := (by rw [hg4.block _ (by simp <;> omega) (fun e => by have := hge4 _ e.symm; omega), ((Below.refl V1.heap.size V1).alloc (Nat.le_refl _) _).block _ (by omega), HB1.out.block _ (by omega)]; exact HBL.out); have HL4 := Lib.hid hl4; have m4 : w4.cell? ⟨w.heap.size + 2, 5, none⟩ = some (.slice A9 q c9) := blk_cell hl4 5 _ rfl; have f4 := blk_froz hl4 5; clear hO4 hg4 hnil4 hl4))
                          go_roundw
                          case rel =>
                            go_light
                            have hgb : Below W5.heap.size wr w4 := ((HB1.out.mono hszP).alloc (by omega) _).grown HG4.out (by simp <;> omega) hge4
                            have hgs : Below (W5.heap.size) wr w4 := hgb
                            have hst := blk_set HL4.out 5 (.slice Az (q + 1) cz)
                            have hbs : ∀ k', k' < W5.heap.size → k' ≠ w.heap.size + 2 → (w4.setCell ⟨w.heap.size + 2, 5, none⟩ (.slice Az (q + 1) cz)).heap[k']? = wr.heap[k']? := fun k' h1 h2 => by rw [(grown_set w4 (w.heap.size + 2) 5 (.slice Az (q + 1) cz)).block k' (by have := hgb.size; omega) (fun e => h2 (by injection e)), hgb.block k' h1]
                            have hzz : (w4.setCell ⟨w.heap.size + 2, 5, none⟩ (.slice Az (q + 1) cz)).heap.size = w4.heap.size := by simp [World.setCell]
                            refine ⟨q + 1, by omega, by simp, HB.out.trans ((hgb.mono (by omega)).trans (Below.setCell (Below.refl _ _) (p := ⟨w.heap.size + 2, 5, none⟩) (by show w.heap.size ≤ w.heap.size + 2; omega) _)), ⟨by rw [hzz]; have := hgb.size; have := HS.out.size; omega, fun k' h1 h2 => by rw [hbs k' h2 (by omega)]; exact HS.out.blk k' h1 h2⟩, by rw [hbs _ (by omega) (by omega)]; exact HBX.out, (.slice Az (q + 1) cz), hst, by rw [hbs _ (by omega) (by omega)]; exact HRS1.out, ?_⟩
                            rw [take_ids HXK.out]
                            exact World.ownsRow.kept HO4.out (grown_set w4 (w.heap.size + 2) 5 (.slice Az (q + 1) cz)) (by
                              cases e : Value.ownBlock (.slice Az (q + 1) cz) with
                              | none => exact .inl rfl
                              | some j => exact .inr fun e2 => by have := (World.ownsRow.lt HO4.out j e).1; injection e2 with e2; omega)
                          case measure => simp [intOf]; omega
                        · have hkI : ¬ (q : Int) < (n6 : Int) := by omega
                          obtain rfl : n6 = q := by omega
                          obtain ⟨B5, e5, hBe⟩ : ∃ B' e', (Value.slice A9 n6 c9) = .slice B' n6 e' := ⟨_, _, rfl⟩
                          rw [hBe] at hbl ho
                          clear hBe HO HBL
                          have HI5 := Lib.hid (int_own (by rw [List.length_map]; exact hn6.out) ho (fun y hy => by
                            obtain ⟨x, hx, rfl⟩ := List.mem_map.1 hy
                            exact RowV.all HR6.out (Q := fun x => I64 x.id) (fun _ _ _ _ h => by obtain ⟨v, u, rfl, i1, _⟩ := h; exact i1) x hx))
                          obtain ⟨W6, hWn⟩ : ∃ x, x = wr := ⟨_, rfl⟩
                          subst hWn
                          have HB6 := HB
                          have HBX6 := HBX
                          have HRS6 := HRS1
                          have HS6 := HS
                          have HBL6 := Lib.hid hbl
                          have HRow5 := HI5
                          have hszW6 := hsz
                          have hszP6 := hszP
                          have HRow0 := Lib.hid (HRow0.out.kept (HS6.out.narrow (by omega) (by omega)))
                          have HRow1 := Lib.hid (HRow1.out.kept (HS6.out.narrow (by omega) (by omega)))
                          have HRow2 := Lib.hid (HRow2.out.kept (HS6.out.narrow (by omega) (by omega)))
                          have HRow3 := Lib.hid (HRow3.out.kept (HS6.out.narrow (by omega) (by omega)))
                          have HRow4 := Lib.hid (HRow4.out.kept (HS6.out.narrow (by omega) (by omega)))
                          clear HB HBX HRS1 HS HI5 hb hs hbx hbl hrs1 ho hsz hszP hkI
                          have z0 : W6.cell? ⟨w.heap.size + 2, 0, none⟩ = some (.slice B0 n0 e0) := blk_cell HBL6.out 0 _ rfl
                          have y0 : W6.cell? ⟨w.heap.size + 1, 0, none⟩ = some (.slice none 0 0) := blk_cell HRS6.out 0 _ rfl
                          have f0 := blk_froz HRS6.out 0
                          have z1 : W6.cell? ⟨w.heap.size + 2, 1, none⟩ = some (.slice B1 n1 e1) := blk_cell HBL6.out 1 _ rfl
                          have y1 : W6.cell? ⟨w.heap.size + 1, 1, none⟩ = some (.slice none 0 0) := blk_cell HRS6.out 1 _ rfl
                          have f1 := blk_froz HRS6.out 1
                          have z2 : W6.cell? ⟨w.heap.size + 2, 2, none⟩ = some (.slice B2 n2 e2) := blk_cell HBL6.out 2 _ rfl
                          have y2 : W6.cell? ⟨w.heap.size + 1, 2, none⟩ = some (.slice none 0 0) := blk_cell HRS6.out 2 _ rfl
                          have f2 := blk_froz HRS6.out 2
                          have z3 : W6.cell? ⟨w.heap.size + 2, 3, none⟩ = some (.slice B3 n3 e3) := blk_cell HBL6.out 3 _ rfl
                          have y3 : W6.cell? ⟨w.heap.size + 1, 3, none⟩ = some (.slice none 0 0) := blk_cell HRS6.out 3 _ rfl
                          have f3 := blk_froz HRS6.out 3
                          have z4 : W6.cell? ⟨w.heap.size + 2, 4, none⟩ = some (.slice B4 n4 e4) := blk_cell HBL6.out 4 _ rfl
                          have y4 : W6.cell? ⟨w.heap.size + 1, 4, none⟩ = some (.slice none 0 0) := blk_cell HRS6.out 4 _ rfl
                          have f4 := blk_froz HRS6.out 4
                          have z5 : W6.cell? ⟨w.heap.size + 2, 5, none⟩ = some (.slice B5 n6 e5) := blk_cell HBL6.out 5 _ rfl
                          have y5 : W6.cell? ⟨w.heap.size + 1, 5, none⟩ = some (.slice none 0 0) := blk_cell HRS6.out 5 _ rfl
                          have f5 := blk_froz HRS6.out 5
                          go_wp2_with fail
                          obtain ⟨W7, hW7⟩ : ∃ x, x = ((((((W6.setCell ⟨w.heap.size + 1, 0, none⟩ (.slice B0 n0 e0)).setCell ⟨w.heap.size + 1, 1, none⟩ (.slice B1 n1 e1)).setCell ⟨w.heap.size + 1, 2, none⟩ (.slice B2 n2 e2)).setCell ⟨w.heap.size + 1, 3, none⟩ (.slice B3 n3 e3)).setCell ⟨w.heap.size + 1, 4, none⟩ (.slice B4 n4 e4)).setCell ⟨w.heap.size + 1, 5, none⟩ (.slice B5 n6 e5)) := ⟨_, rfl⟩
                          have hb7 : Below w.heap.size W6 W7 := by rw [hW7]; exact (Below.setCell (Below.setCell (Below.setCell (Below.setCell (Below.setCell (Below.setCell (Below.refl w.heap.size W6) (p := ⟨w.heap.size + 1, 0, none⟩) (Nat.le_succ _) _) (p := ⟨w.heap.size + 1, 1, none⟩) (Nat.le_succ _) _) (p := ⟨w.heap.size + 1, 2, none⟩) (Nat.le_succ _) _) (p := ⟨w.heap.size + 1, 3, none⟩) (Nat.le_succ _) _) (p := ⟨w.heap.size + 1, 4, none⟩) (Nat.le_succ _) _) (p := ⟨w.heap.size + 1, 5, none⟩) (Nat.le_succ _) _)
                          have hg7 : W6.grownBy W7 (some (w.heap.size + 1)) := by rw [hW7]; exact ((((((grown_set W6 (w.heap.size + 1) 0 _).trans (grown_set _ (w.heap.size + 1) 1 _)).trans (grown_set _ (w.heap.size + 1) 2 _)).trans (grown_set _ (w.heap.size + 1) 3 _)).trans (grown_set _ (w.heap.size + 1) 4 _)).trans (grown_set _ (w.heap.size + 1) 5 _))
                          have hblk : W7.heap[w.heap.size + 1]? = some (.cells #[.slice B0 n0 e0, .slice B1 n1 e1, .slice B2 n2 e2, .slice B3 n3 e3, .slice B4 n4 e4, .slice B5 n6 e5] 234 (0, 0)) := by
                            rw [hW7]
                            have h0 : (W6.setCell ⟨w.heap.size + 1, 0, none⟩ (.slice B0 n0 e0)).heap[w.heap.size + 1]? = some (.cells #[.slice B0 n0 e0, .slice none 0 0, .slice none 0 0, .slice none 0 0, .slice none 0 0, .slice none 0 0] 234 (0, 0)) := blk_set HRS6.out 0 _
                            have h1 : ((W6.setCell ⟨w.heap.size + 1, 0, none⟩ (.slice B0 n0 e0)).setCell ⟨w.heap.size + 1, 1, none⟩ (.slice B1 n1 e1)).heap[w.heap.size + 1]? = some (.cells #[.slice B0 n0 e0, .slice B1 n1 e1, .slice none 0 0, .slice none 0 0, .slice none 0 0, .slice none 0 0] 234 (0, 0)) := blk_set h0 1 _
                            have h2 : (((W6.setCell ⟨w.heap.size + 1, 0, none⟩ (.slice B0 n0 e0)).setCell ⟨w.heap.size + 1, 1, none⟩ (.slice B1 n1 e1)).setCell ⟨w.heap.size + 1, 2, none⟩ (.slice B2 n2 e2)).heap[w.heap.size + 1]? = some (.cells #[.slice B0 n0 e0, .slice B1 n1 e1, .slice B2 n2 e2, .slice none 0 0, .slice none 0 0, .slice none 0 0] 234 (0, 0)) := blk_set h1 2 _
                            have h3 : ((((W6.setCell ⟨w.heap.size + 1, 0, none⟩ (.slice B0 n0 e0)).setCell ⟨w.heap.size + 1, 1, none⟩ (.slice B1 n1 e1)).setCell ⟨w.heap.size + 1, 2, none⟩ (.slice B2 n2 e2)).setCell ⟨w.heap.size + 1, 3, none⟩ (.slice B3 n3 e3)).heap[w.heap.size + 1]? = some (.cells #[.slice B0 n0 e0, .slice B1 n1 e1, .slice B2 n2 e2, .slice B3 n3 e3, .slice none 0 0, .slice none 0 0] 234 (0, 0)) := blk_set h2 3 _
                            have h4 : (((((W6.setCell ⟨w.heap.size + 1, 0, none⟩ (.slice B0 n0 e0)).setCell ⟨w.heap.size + 1, 1, none⟩ (.slice B1 n1 e1)).setCell ⟨w.heap.size + 1, 2, none⟩ (.slice B2 n2 e2)).setCell ⟨w.heap.size + 1, 3, none⟩ (.slice B3 n3 e3)).setCell ⟨w.heap.size + 1, 4, none⟩ (.slice B4 n4 e4)).heap[w.heap.size + 1]? = some (.cells #[.slice B0 n0 e0, .slice B1 n1 e1, .slice B2 n2 e2, .slice B3 n3 e3, .slice B4 n4 e4, .slice none 0 0] 234 (0, 0)) := blk_set h3 4 _
                            have h5 : ((((((W6.setCell ⟨w.heap.size + 1, 0, none⟩ (.slice B0 n0 e0)).setCell ⟨w.heap.size + 1, 1, none⟩ (.slice B1 n1 e1)).setCell ⟨w.heap.size + 1, 2, none⟩ (.slice B2 n2 e2)).setCell ⟨w.heap.size + 1, 3, none⟩ (.slice B3 n3 e3)).setCell ⟨w.heap.size + 1, 4, none⟩ (.slice B4 n4 e4)).setCell ⟨w.heap.size + 1, 5, none⟩ (.slice B5 n6 e5)).heap[w.heap.size + 1]? = some (.cells #[.slice B0 n0 e0, .slice B1 n1 e1, .slice B2 n2 e2, .slice B3 n3 e3, .slice B4 n4 e4, .slice B5 n6 e5] 234 (0, 0)) := blk_set h4 5 _
                            exact h5
                          have q0 : W7.cell? ⟨w.heap.size + 1, 0, none⟩ = some (.slice B0 n0 e0) := blk_cell hblk 0 _ rfl
                          have q1 : W7.cell? ⟨w.heap.size + 1, 1, none⟩ = some (.slice B1 n1 e1) := blk_cell hblk 1 _ rfl
                          have q2 : W7.cell? ⟨w.heap.size + 1, 2, none⟩ = some (.slice B2 n2 e2) := blk_cell hblk 2 _ rfl
                          have q3 : W7.cell? ⟨w.heap.size + 1, 3, none⟩ = some (.slice B3 n3 e3) := blk_cell hblk 3 _ rfl
                          have q4 : W7.cell? ⟨w.heap.size + 1, 4, none⟩ = some (.slice B4 n4 e4) := blk_cell hblk 4 _ rfl
                          have q5 : W7.cell? ⟨w.heap.size + 1, 5, none⟩ = some (.slice B5 n6 e5) := blk_cell hblk 5 _ rfl
                          have hs7 : SameB (w.heap.size + 3) W6.heap.size W6 W7 := .of_grown hg7 (Nat.le_refl _) (fun k e => by injection e with e; omega)
                          have hz7 := hg7.size
                          refine bodyPost_ret (v := .agg #[.slice B0 n0 e0, .slice B1 n1 e1, .slice B2 n2 e2, .slice B3 n3 e3, .slice B4 n4 e4, .slice B5 n6 e5]) (by rw [hW7] at q0 q1 q2 q3 q4 q5; simp [results, Tryz.results154, go_sem, q0, q1, q2, q3, q4, q5]) rfl ?_
                          rw [← hW7]
                          exact ⟨_, _, _, _, _, _, rfl, HRow0.out W7 W7.heap.size (hs7.narrow (by omega) (by omega)) (by omega), HRow1.out W7 W7.heap.size (hs7.narrow (by omega) (by omega)) (by omega), HRow2.out W7 W7.heap.size (hs7.narrow (by omega) (by omega)) (by omega), HRow3.out W7 W7.heap.size (hs7.narrow (by omega) (by omega)) (by omega), HRow4.out W7 W7.heap.size (hs7.narrow (by omega) (by omega)) (by omega), HRow5.out W7 W7.heap.size (hs7.narrow (by omega) (by omega)) (by omega), HB6.out.trans hb7⟩
end Go.Proofs.YtldgjahpmlafgaaGreat
