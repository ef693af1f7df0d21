/- The program's index functions: the place of the first element with an ID. -/
import Derived.Test.YtldgjahpmlafgaaGreatJSWr
namespace Go.Proofs.YtldgjahpmlafgaaGreat
open Go.RowKit

def ixI (id : Int) : List Int → Nat → Int
  | [], _ => -1
  | i :: r, k => if i = id then k else ixI id r (k + 1)
theorem ixI_is (id : Int) : ∀ (l : List Int) (k : Nat), (ixI id l k = -1 ∧ id ∉ l) ∨ ∃ j, ixI id l k = ((k + j : Nat) : Int) ∧ l[j]? = some id ∧ ∀ m, m < j → l[m]? ≠ some id := by
  intro l
  induction l with
  | nil => intro k; exact .inl ⟨rfl, by simp⟩
  | cons i r ih =>
    intro k
    unfold ixI
    by_cases h : i = id
    · rw [if_pos h]
      exact .inr ⟨0, rfl, by simp [h], fun m hm => by omega⟩
    · rw [if_neg h]
      rcases ih (k + 1) with ⟨h1, h2⟩ | ⟨j, h1, h2, h3⟩
      · exact .inl ⟨h1, by simp only [List.mem_cons, not_or]; exact ⟨fun e => h e.symm, h2⟩⟩
      · refine .inr ⟨j + 1, by rw [h1]; congr 1; omega, h2, fun m hm => ?_⟩
        match m, hm with
        | 0, _ => simpa using h
        | m + 1, hm => simpa using h3 m (by omega)
theorem ixI_lt {id : Int} {l : List Int} : -1 ≤ ixI id l 0 ∧ (ixI id l 0 < l.length) := by
  rcases ixI_is id l 0 with ⟨h, _⟩ | ⟨j, h, h2, _⟩
  · rw [h]; omega
  · rw [h, Nat.zero_add]
    have := (List.getElem?_eq_some_iff.1 h2).1
    omega
theorem CellsAt.at {w : World} {b o : Nat} {cs : List Value} (h : CellsAt w b o cs) (j : Nat) (v : Value) (e : cs[j]? = some v) : w.cell? ⟨b, o + j, none⟩ = some v := by
  obtain ⟨h1, h2⟩ := List.getElem?_eq_some_iff.1 e
  rw [h j h1, h2]
theorem CellsAt.at0 {w : World} {b o : Nat} {cs : List Value} (h : CellsAt w b o cs) (v : Value) (e : cs[0]? = some v) : w.cell? ⟨b, o, none⟩ = some v := h.at 0 v e
set_option maxRecDepth 100000 in
set_option maxHeartbeats 1000000 in
theorem g_is_table (i : Int) (c1 c2 c3 c4 c5 c6 c7 : Value) (P : Nat) (id : Int) (w : World) (hP : w.cell? ⟨P, 0, none⟩ = some (.int .i64 id)) : Calls Tryz.prog 108 #[.agg #[.int .i64 i, c1, c2, c3, c4, c5, c6, c7], .pointer (some ⟨P, 0, none⟩)] w (RetX (.bool (decide (i = id))) w) := by
  have hPl : P < w.heap.size := World.block_lt_of_cell? w _ hP
  have hP2 : (w.alloc (.cells #[.int .i64 i, c1, c2, c3, c4, c5, c6, c7] 59)).cell? ⟨P, 0, none⟩ = some (.int .i64 id) := by
    rw [((Below.refl w.heap.size w).alloc (Nat.le_refl _) _).cell (p := ⟨P, 0, none⟩) hPl]; exact hP
  by_cases h : i = id
  · subst h
    rw [decide_eq_true rfl]
    go_enter Tryz.func108, Tryz.ntmps108
    go_wp2
    go_ret
    exact ⟨rfl, (Below.refl _ _).alloc (Nat.le_refl _) _⟩
  · rw [decide_eq_false h]
    go_enter Tryz.func108, Tryz.ntmps108
    go_wp2
    go_ret
    exact ⟨by simp [h], (Below.refl _ _).alloc (Nat.le_refl _) _⟩
set_option maxRecDepth 100000 in
set_option maxHeartbeats 2000000 in
theorem g_ix_table (w : World) (B : Nat) (A : Option Addr) (n c : Nat) (xs : List TableD) (h : RowV 8 TableV B w (.slice A n c) xs) (hB : B ≤ w.heap.size) (P : Nat) (id : Int) (hP : w.cell? ⟨P, 0, none⟩ = some (.int .i64 id)) :
    Calls Tryz.prog 107 #[.slice A n c, .func (.func 108) #[] #[.pointer (some ⟨P, 0, none⟩)]] w (RetX (.int .i64 (ixI id (xs.map (·.id)) 0)) w) := by
  obtain ⟨hn, hc, hm⟩ : Hid (n = xs.length) ∧ n ≤ c ∧ c ≤ maxLen := by
    obtain ⟨A', n', c', e, h1, h2, h3, _⟩ := h
    injection e with _ e1 e2
    subst e1 e2
    exact ⟨h1, h2, h3⟩
  unfold maxLen at hm
  have HR := Lib.hid h
  have HP := Lib.hid hP
  have hPl : P < w.heap.size := World.block_lt_of_cell? w _ hP
  obtain ⟨r, hr⟩ : ∃ r, r = ixI id (xs.map (·.id)) 0 := ⟨_, rfl⟩
  rw [← hr]
  have HRR := Lib.hid hr
  clear h hP hr
  go_enter Tryz.func107, Tryz.ntmps107
  go_wp2_with fail
  go_loopw [8] (fun i w' => ∃ k : Nat, k ≤ n ∧ i = .int .i64 k ∧ Below w.heap.size w w' ∧ Hid (r = ixI id ((xs.map (·.id)).drop k) k)) (fun i _ => n - (intOf i).toNat)
  case atStart => exact ⟨0, by omega, rfl, Below.refl _ _, HRR⟩
  case round =>
    obtain ⟨k, hk, rfl, hb, hxh⟩ := hrel
    have hx := hxh.out
    clear hxh HRR
    have HB := Lib.hid hb
    have hPw : wr.cell? ⟨P, 0, none⟩ = some (.int .i64 id) := (hb.cell (p := ⟨P, 0, none⟩) hPl).trans HP.out
    clear hb
    by_cases hlt : k < n
    · have hkI : (k : Int) < (n : Int) := by omega
      have hkc : (k : Int) < (c : Int) := by omega
      have hk0 : 0 ≤ (k : Int) := by omega
      obtain ⟨g, oo, e1, x, hxk, _, cs, hcs, hV⟩ := row_at (HR.out.below kept_table (HB.out.mono hB)) (q := k) (by rw [← hn.out]; exact hlt)
      have hlen : k < (xs.map (·.id)).length := by rw [List.length_map, ← hn.out]; exact hlt
      have hdr : (xs.map (·.id)).drop k = x.id :: (xs.map (·.id)).drop (k + 1) := by
        rw [List.drop_eq_getElem_cons hlen]
        congr 1
        have := List.getElem?_eq_some_iff.1 (show (xs.map (·.id))[k]? = some x.id by rw [List.getElem?_map, hxk]; rfl)
        exact this.2
      rw [hdr, ixI] at hx
      obtain ⟨v, u, t, rfl, i1, _⟩ := hV
      subst e1
      have d0 : wr.cell? ⟨g, oo + k * 8, none⟩ = some _ := hcs.at0 _ rfl
      have d1 : wr.cell? ⟨g, oo + k * 8 + 1, none⟩ = some _ := hcs.at 1 _ rfl
      have d2 : wr.cell? ⟨g, oo + k * 8 + 2, none⟩ = some _ := hcs.at 2 _ rfl
      have d3 : wr.cell? ⟨g, oo + k * 8 + 3, none⟩ = some _ := hcs.at 3 _ rfl
      have d4 : wr.cell? ⟨g, oo + k * 8 + 4, none⟩ = some _ := hcs.at 4 _ rfl
      have d5 : wr.cell? ⟨g, oo + k * 8 + 5, none⟩ = some _ := hcs.at 5 _ rfl
      have d6 : wr.cell? ⟨g, oo + k * 8 + 6, none⟩ = some _ := hcs.at 6 _ rfl
      have d7 : wr.cell? ⟨g, oo + k * 8 + 7, none⟩ = some _ := hcs.at 7 _ rfl
      have KC := Lib.hid (fun c1 c2 c3 c4 c5 c6 c7 => g_is_table x.id c1 c2 c3 c4 c5 c6 c7 P id wr hPw)
      have HX := Lib.hid hx
      clear hdr hx hPw hcs hxk hlen
      go_wp2_with fail
      go_at_call 108
      refine (KC.out _ _ _ _ _ _ _).mono ?_
      rintro e w1 ⟨rfl, hb1⟩
      have HB1 := Lib.hid (HB.out.trans (hb1.mono HB.out.size))
      clear hb1
      by_cases hi : x.id = id
      · have hval : r = (k : Int) := by rw [HX.out, if_pos hi]
        rw [decide_eq_true hi]
        subst hval
        clear HX
        go_wp2_with fail
        go_ret
        exact ⟨rfl, HB1.out⟩
      · have hval : r = ixI id ((xs.map (·.id)).drop (k + 1)) (k + 1) := by rw [HX.out, if_neg hi]
        have HVAL := Lib.hid hval
        clear hval HX
        rw [decide_eq_false hi]
        go_wp2_with fail
        go_roundw
        case rel => (go_light; exact ⟨k + 1, by omega, by simp, HB1.out, HVAL⟩)
        case measure => simp [intOf]; omega
    · have hkI : ¬ (k : Int) < (n : Int) := by omega
      have hval : r = -1 := by rw [hx, List.drop_of_length_le (by rw [List.length_map, ← hn.out]; omega)]; rfl
      subst hval
      clear hx
      go_wp2_with fail
      go_ret
      exact ⟨rfl, HB.out⟩
set_option maxRecDepth 100000 in
set_option maxHeartbeats 2000000 in
theorem g_TableOf (w : World) (B : Nat) (A : Option Addr) (n c : Nat) (xs : List TableD) (h : RowV 8 TableV B w (.slice A n c) xs) (hB : B ≤ w.heap.size) (s0 s1 s2 s3 s5 s6 s7 s8 s9 : Value) (id : Int) :
    Calls Tryz.prog 72 #[.agg #[s0, s1, s2, s3, .slice A n c, s5, s6, s7, s8, s9], .int .i64 id] w (RetX (.int .i64 (ixI id (xs.map (·.id)) 0)) w) := by
  obtain ⟨W0, hW0⟩ : ∃ W, W = (w.alloc (.cells #[s0, s1, s2, s3, .slice A n c, s5, s6, s7, s8, s9] 36)).alloc (.cells #[.int .i64 id] 3) := ⟨_, rfl⟩
  have hB0 : Below w.heap.size w W0 := by rw [hW0]; exact ((Below.refl _ _).alloc (Nat.le_refl _) _).alloc (by simp) _
  have hS0 : W0.heap[w.heap.size]? = some (.cells #[s0, s1, s2, s3, .slice A n c, s5, s6, s7, s8, s9] 36 (0, 0)) := by
    rw [hW0]
    exact (((Below.refl _ _).alloc (Nat.le_refl _) _).block w.heap.size (by simp)).trans (heap_alloc_new _ _)
  have hI0 : W0.heap[w.heap.size + 1]? = some (.cells #[.int .i64 id] 3 (0, 0)) := by
    rw [hW0, show w.heap.size + 1 = (w.alloc (.cells #[s0, s1, s2, s3, .slice A n c, s5, s6, s7, s8, s9] 36)).heap.size by simp]
    exact heap_alloc_new _ _
  have hP : W0.cell? ⟨w.heap.size + 1, 0, none⟩ = some (.int .i64 id) := by simp [World.cell?, hI0]
  have KX := Lib.hid (g_ix_table W0 B A n c xs (h.below kept_table (hB0.mono hB)) (Nat.le_trans hB hB0.size) (w.heap.size + 1) id hP)
  have c0 : W0.cell? ⟨w.heap.size, 4, none⟩ = some (.slice A n c) := by simp [World.cell?, hS0]
  have HB0 := Lib.hid hB0
  have hz0 : W0.heap.size = w.heap.size + 2 := by rw [hW0]; simp
  have HW0 := Lib.hid hW0
  clear hW0 hB0 h hI0 hP hS0
  go_enter Tryz.func72, Tryz.ntmps72
  go_upto_region 1 with fail
  change Code.wp _ _ _ _ ((w.alloc (.cells #[s0, s1, s2, s3, .slice A n c, s5, s6, s7, s8, s9] 36)).alloc (.cells #[.int .i64 id] 3))
  rw [← HW0.out]
  clear HW0
  have hmf : ∀ (fn : Fn) (first cap : Array Value) (w : World), (Instr.makeFunc fn first cap).run Tryz.prog w = .ok (.func fn first cap) w := fun _ _ _ _ => rfl
  go_wp2_with fail
  go_at_call 107
  refine KX.out.mono ?_
  rintro e w1 ⟨rfl, hb1⟩
  have HB1 := Lib.hid (HB0.out.trans (hb1.mono HB0.out.size))
  clear hb1 KX
  go_wp2_with fail
  go_ret
  exact ⟨rfl, HB1.out⟩
set_option maxRecDepth 100000 in
set_option maxHeartbeats 1000000 in
theorem g_is_field (i : Int) (c1 c2 : Value) (P : Nat) (id : Int) (w : World) (hP : w.cell? ⟨P, 0, none⟩ = some (.int .i64 id)) : Calls Tryz.prog 187 #[.agg #[.int .i64 i, c1, c2], .pointer (some ⟨P, 0, none⟩)] w (RetX (.bool (decide (i = id))) w) := by
  have hPl : P < w.heap.size := World.block_lt_of_cell? w _ hP
  have hP2 : (w.alloc (.cells #[.int .i64 i, c1, c2] 112)).cell? ⟨P, 0, none⟩ = some (.int .i64 id) := by
    rw [((Below.refl w.heap.size w).alloc (Nat.le_refl _) _).cell (p := ⟨P, 0, none⟩) hPl]; exact hP
  by_cases h : i = id
  · subst h
    rw [decide_eq_true rfl]
    go_enter Tryz.func187, Tryz.ntmps187
    go_wp2
    go_ret
    exact ⟨rfl, (Below.refl _ _).alloc (Nat.le_refl _) _⟩
  · rw [decide_eq_false h]
    go_enter Tryz.func187, Tryz.ntmps187
    go_wp2
    go_ret
    exact ⟨by simp [h], (Below.refl _ _).alloc (Nat.le_refl _) _⟩
set_option maxRecDepth 100000 in
set_option maxHeartbeats 2000000 in
theorem g_ix_field (w : World) (B : Nat) (A : Option Addr) (n c : Nat) (xs : List FieldD) (h : RowV 3 FieldV B w (.slice A n c) xs) (hB : B ≤ w.heap.size) (P : Nat) (id : Int) (hP : w.cell? ⟨P, 0, none⟩ = some (.int .i64 id)) :
    Calls Tryz.prog 186 #[.slice A n c, .func (.func 187) #[] #[.pointer (some ⟨P, 0, none⟩)]] w (RetX (.int .i64 (ixI id (xs.map (·.id)) 0)) w) := by
  obtain ⟨hn, hc, hm⟩ : Hid (n = xs.length) ∧ n ≤ c ∧ c ≤ maxLen := by
    obtain ⟨A', n', c', e, h1, h2, h3, _⟩ := h
    injection e with _ e1 e2
    subst e1 e2
    exact ⟨h1, h2, h3⟩
  unfold maxLen at hm
  have HR := Lib.hid h
  have HP := Lib.hid hP
  have hPl : P < w.heap.size := World.block_lt_of_cell? w _ hP
  obtain ⟨r, hr⟩ : ∃ r, r = ixI id (xs.map (·.id)) 0 := ⟨_, rfl⟩
  rw [← hr]
  have HRR := Lib.hid hr
  clear h hP hr
  go_enter Tryz.func186, Tryz.ntmps186
  go_wp2_with fail
  go_loopw [8] (fun i w' => ∃ k : Nat, k ≤ n ∧ i = .int .i64 k ∧ Below w.heap.size w w' ∧ Hid (r = ixI id ((xs.map (·.id)).drop k) k)) (fun i _ => n - (intOf i).toNat)
  case atStart => exact ⟨0, by omega, rfl, Below.refl _ _, HRR⟩
  case round =>
    obtain ⟨k, hk, rfl, hb, hxh⟩ := hrel
    have hx := hxh.out
    clear hxh HRR
    have HB := Lib.hid hb
    have hPw : wr.cell? ⟨P, 0, none⟩ = some (.int .i64 id) := (hb.cell (p := ⟨P, 0, none⟩) hPl).trans HP.out
    clear hb
    by_cases hlt : k < n
    · have hkI : (k : Int) < (n : Int) := by omega
      have hkc : (k : Int) < (c : Int) := by omega
      have hk0 : 0 ≤ (k : Int) := by omega
      obtain ⟨g, oo, e1, x, hxk, _, cs, hcs, hV⟩ := row_at (HR.out.below kept_field (HB.out.mono hB)) (q := k) (by rw [← hn.out]; exact hlt)
      have hlen : k < (xs.map (·.id)).length := by rw [List.length_map, ← hn.out]; exact hlt
      have hdr : (xs.map (·.id)).drop k = x.id :: (xs.map (·.id)).drop (k + 1) := by
        rw [List.drop_eq_getElem_cons hlen]
        congr 1
        have := List.getElem?_eq_some_iff.1 (show (xs.map (·.id))[k]? = some x.id by rw [List.getElem?_map, hxk]; rfl)
        exact this.2
      rw [hdr, ixI] at hx
      obtain ⟨rfl, i1, _⟩ := hV
      subst e1
      have d0 : wr.cell? ⟨g, oo + k * 3, none⟩ = some _ := hcs.at0 _ rfl
      have d1 : wr.cell? ⟨g, oo + k * 3 + 1, none⟩ = some _ := hcs.at 1 _ rfl
      have d2 : wr.cell? ⟨g, oo + k * 3 + 2, none⟩ = some _ := hcs.at 2 _ rfl
      have KC := Lib.hid (fun c1 c2 => g_is_field x.id c1 c2 P id wr hPw)
      have HX := Lib.hid hx
      clear hdr hx hPw hcs hxk hlen
      go_wp2_with fail
      go_at_call 187
      refine (KC.out _ _).mono ?_
      rintro e w1 ⟨rfl, hb1⟩
      have HB1 := Lib.hid (HB.out.trans (hb1.mono HB.out.size))
      clear hb1
      by_cases hi : x.id = id
      · have hval : r = (k : Int) := by rw [HX.out, if_pos hi]
        rw [decide_eq_true hi]
        subst hval
        clear HX
        go_wp2_with fail
        go_ret
        exact ⟨rfl, HB1.out⟩
      · have hval : r = ixI id ((xs.map (·.id)).drop (k + 1)) (k + 1) := by rw [HX.out, if_neg hi]
        have HVAL := Lib.hid hval
        clear hval HX
        rw [decide_eq_false hi]
        go_wp2_with fail
        go_roundw
        case rel => (go_light; exact ⟨k + 1, by omega, by simp, HB1.out, HVAL⟩)
        case measure => simp [intOf]; omega
    · have hkI : ¬ (k : Int) < (n : Int) := by omega
      have hval : r = -1 := by rw [hx, List.drop_of_length_le (by rw [List.length_map, ← hn.out]; omega)]; rfl
      subst hval
      clear hx
      go_wp2_with fail
      go_ret
      exact ⟨rfl, HB.out⟩
set_option maxRecDepth 100000 in
set_option maxHeartbeats 2000000 in
theorem g_FieldOf (w : World) (B : Nat) (A : Option Addr) (n c : Nat) (xs : List FieldD) (h : RowV 3 FieldV B w (.slice A n c) xs) (hB : B ≤ w.heap.size) (s1 s2 s3 s4 s5 s6 s7 s8 s9 : Value) (id : Int) :
    Calls Tryz.prog 167 #[.agg #[.slice A n c, s1, s2, s3, s4, s5, s6, s7, s8, s9], .int .i64 id] w (RetX (.int .i64 (ixI id (xs.map (·.id)) 0)) w) := by
  obtain ⟨W0, hW0⟩ : ∃ W, W = (w.alloc (.cells #[.slice A n c, s1, s2, s3, s4, s5, s6, s7, s8, s9] 36)).alloc (.cells #[.int .i64 id] 3) := ⟨_, rfl⟩
  have hB0 : Below w.heap.size w W0 := by rw [hW0]; exact ((Below.refl _ _).alloc (Nat.le_refl _) _).alloc (by simp) _
  have hS0 : W0.heap[w.heap.size]? = some (.cells #[.slice A n c, s1, s2, s3, s4, s5, s6, s7, s8, s9] 36 (0, 0)) := by
    rw [hW0]
    exact (((Below.refl _ _).alloc (Nat.le_refl _) _).block w.heap.size (by simp)).trans (heap_alloc_new _ _)
  have hI0 : W0.heap[w.heap.size + 1]? = some (.cells #[.int .i64 id] 3 (0, 0)) := by
    rw [hW0, show w.heap.size + 1 = (w.alloc (.cells #[.slice A n c, s1, s2, s3, s4, s5, s6, s7, s8, s9] 36)).heap.size by simp]
    exact heap_alloc_new _ _
  have hP : W0.cell? ⟨w.heap.size + 1, 0, none⟩ = some (.int .i64 id) := by simp [World.cell?, hI0]
  have KX := Lib.hid (g_ix_field W0 B A n c xs (h.below kept_field (hB0.mono hB)) (Nat.le_trans hB hB0.size) (w.heap.size + 1) id hP)
  have c0 : W0.cell? ⟨w.heap.size, 0, none⟩ = some (.slice A n c) := by simp [World.cell?, hS0]
  have HB0 := Lib.hid hB0
  have hz0 : W0.heap.size = w.heap.size + 2 := by rw [hW0]; simp
  have HW0 := Lib.hid hW0
  clear hW0 hB0 h hI0 hP hS0
  go_enter Tryz.func167, Tryz.ntmps167
  go_upto_region 1 with fail
  change Code.wp _ _ _ _ ((w.alloc (.cells #[.slice A n c, s1, s2, s3, s4, s5, s6, s7, s8, s9] 36)).alloc (.cells #[.int .i64 id] 3))
  rw [← HW0.out]
  clear HW0
  have hmf : ∀ (fn : Fn) (first cap : Array Value) (w : World), (Instr.makeFunc fn first cap).run Tryz.prog w = .ok (.func fn first cap) w := fun _ _ _ _ => rfl
  go_wp2_with fail
  go_at_call 186
  refine KX.out.mono ?_
  rintro e w1 ⟨rfl, hb1⟩
  have HB1 := Lib.hid (HB0.out.trans (hb1.mono HB0.out.size))
  clear hb1 KX
  go_wp2_with fail
  go_ret
  exact ⟨rfl, HB1.out⟩
end Go.Proofs.YtldgjahpmlafgaaGreat
