/- slices.IndexFunc with a closure that compares a number. -/
import Derived.Test.YtldgjahpmlafgaaGreatKInst
import Derived.Test.YtldgjahpmlafgaaGreatGIdx
namespace Go.Proofs.YtldgjahpmlafgaaGreat
open Go.RowKit
theorem rowK_at {α : Type} {sz B : Nat} {P : CellP α} {w : World} {A : Option Addr} {n c : Nat} {xs : List α} (h : RowV sz P B w (.slice A n c) xs) {k : Nat} (hk : k < xs.length) : ∃ b o cs, A = some ⟨b, o, none⟩ ∧ b < B ∧ CellsAt w b (o + k * sz) cs ∧ P B w cs (xs[k]'hk) := by
  obtain ⟨_, _, _, e, _, _, _, hz | ⟨b, o, hA, hc⟩⟩ := h
  · rw [hz] at hk; simp at hk
  · injection e with e1 e2 e3
    subst e1
    obtain ⟨h1, cs, h2, h3⟩ := hc k _ (List.getElem?_eq_getElem hk)
    exact ⟨b, o, cs, hA, h1, h2, h3⟩
set_option maxRecDepth 100000 in
set_option maxHeartbeats 2000000 in
theorem kc_installed (W : World) (x : (EntryD × Int × Int)) (v0 v1 : Value) (q : Nat) (num : Int) (hq : W.cell? ⟨q, 0, none⟩ = some (.int .i64 num)) : Calls Tryz.prog 149 #[.agg #[.int .i64 x.1.table, v0, .int .i64 x.1.prio, .int .i64 x.1.action, v1, .int .i64 x.2.1, .int .i64 x.2.2], .pointer (some ⟨q, 0, none⟩)] W (RetX (.bool (decide (x.2.1 = num))) W) := by
  have hb : Below W.heap.size W (W.alloc (.cells #[.int .i64 x.1.table, v0, .int .i64 x.1.prio, .int .i64 x.1.action, v1, .int .i64 x.2.1, .int .i64 x.2.2] 43)) := (Below.refl _ _).alloc (Nat.le_refl _) _
  have hl := World.block_lt_of_cell? W _ hq
  have h1 : (W.alloc (.cells #[.int .i64 x.1.table, v0, .int .i64 x.1.prio, .int .i64 x.1.action, v1, .int .i64 x.2.1, .int .i64 x.2.2] 43)).cell? ⟨q, 0, none⟩ = some (.int .i64 num) := (World.cell?_of_block (hb.block q hl)).trans hq
  have h2 : (W.alloc (.cells #[.int .i64 x.1.table, v0, .int .i64 x.1.prio, .int .i64 x.1.action, v1, .int .i64 x.2.1, .int .i64 x.2.2] 43)).cell? ⟨W.heap.size, 5, none⟩ = some (.int .i64 x.2.1) := blk_cell (heap_alloc_new W _) 5 _ rfl
  obtain ⟨V, hV⟩ : ∃ V, V = W.alloc (.cells #[.int .i64 x.1.table, v0, .int .i64 x.1.prio, .int .i64 x.1.action, v1, .int .i64 x.2.1, .int .i64 x.2.2] 43) := ⟨_, rfl⟩
  rw [← hV] at h1 h2 hb
  have HV := Lib.hid hV
  have HB := Lib.hid hb
  clear hV hb hq
  go_enter Tryz.func149, Tryz.ntmps149
  go_upto_region 1 with fail
  rw [← HV.out]
  clear HV
  go_wp2_with fail
  go_ret
  exact ⟨rfl, HB.out⟩
set_option maxRecDepth 100000 in
set_option maxHeartbeats 2000000 in
theorem ix_installed {w : World} {B : Nat} {A : Option Addr} {n c : Nat} {xs : List (EntryD × Int × Int)} (h : RowV 7 InstV B w (.slice A n c) xs) (hB : B ≤ w.heap.size) (q : Nat) (num : Int) (hq : w.cell? ⟨q, 0, none⟩ = some (.int .i64 num)) : Calls Tryz.prog 148 #[.slice A n c, .func (.func 149) #[] #[.pointer (some ⟨q, 0, none⟩)]] w (RetX (.int .i64 (ixI num (xs.map (fun x => x.2.1)) 0)) w) := by
  obtain ⟨hn, hc, hm⟩ := h.len
  have HR := Lib.hid h
  have HQ := Lib.hid hq
  obtain ⟨r, hr⟩ : ∃ r, r = ixI num (xs.map (fun x => x.2.1)) 0 := ⟨_, rfl⟩
  rw [← hr]
  have HRR := Lib.hid hr
  clear h hr hq
  go_enter Tryz.func148, Tryz.ntmps148
  go_wp2_with fail
  go_loopw [8] (fun i W => ∃ k : Nat, k ≤ n ∧ i = .int .i64 (k : Int) ∧ Below w.heap.size w W ∧ Hid (r = ixI num ((xs.map (fun x => x.2.1)).drop k) k)) (fun i _ => n - (intOf i).toNat)
  case atStart => exact ⟨0, by omega, rfl, Below.refl _ _, HRR⟩
  case round =>
    obtain ⟨k, hk, rfl, hb, hxh⟩ := hrel
    have HB := Lib.hid hb
    have hx := hxh.out
    clear hxh HRR hb
    by_cases hlt : k < n
    · have hkI : (k : Int) < (n : Int) := by omega
      have hkc : (k : Int) < (c : Int) := by omega
      have hk0 : 0 ≤ (k : Int) := by omega
      have hkx : k < xs.length := by rw [← hn.out]; exact hlt
      obtain ⟨b, oo, cs, hA, hbB, hcs, hV⟩ := rowK_at HR.out hkx
      have hdr : (xs.map (fun x => x.2.1)).drop k = ((fun x => x.2.1) (xs[k]'hkx)) :: (xs.map (fun x => x.2.1)).drop (k + 1) := by
        rw [List.drop_eq_getElem_cons (by rw [List.length_map]; exact hkx), List.getElem_map]
      rw [hdr, ixI] at hx
      obtain ⟨x, hxe⟩ : ∃ x, x = xs[k]'hkx := ⟨_, rfl⟩
      rw [← hxe] at hx hV
      subst hA
      obtain ⟨v0, v1, rfl, -⟩ := hV
      have l0 : wr.cell? ⟨b, oo + k * 7, none⟩ = some (.int .i64 x.1.table) := (World.cell?_of_block (HB.out.block b (by omega))).trans (hcs 0 (by simp))
      have l1 : wr.cell? ⟨b, oo + k * 7 + 1, none⟩ = some (v0) := (World.cell?_of_block (HB.out.block b (by omega))).trans (hcs 1 (by simp))
      have l2 : wr.cell? ⟨b, oo + k * 7 + 2, none⟩ = some (.int .i64 x.1.prio) := (World.cell?_of_block (HB.out.block b (by omega))).trans (hcs 2 (by simp))
      have l3 : wr.cell? ⟨b, oo + k * 7 + 3, none⟩ = some (.int .i64 x.1.action) := (World.cell?_of_block (HB.out.block b (by omega))).trans (hcs 3 (by simp))
      have l4 : wr.cell? ⟨b, oo + k * 7 + 4, none⟩ = some (v1) := (World.cell?_of_block (HB.out.block b (by omega))).trans (hcs 4 (by simp))
      have l5 : wr.cell? ⟨b, oo + k * 7 + 5, none⟩ = some (.int .i64 x.2.1) := (World.cell?_of_block (HB.out.block b (by omega))).trans (hcs 5 (by simp))
      have l6 : wr.cell? ⟨b, oo + k * 7 + 6, none⟩ = some (.int .i64 x.2.2) := (World.cell?_of_block (HB.out.block b (by omega))).trans (hcs 6 (by simp))
      have KC : Hid (Calls Tryz.prog 149 #[.agg #[.int .i64 x.1.table, v0, .int .i64 x.1.prio, .int .i64 x.1.action, v1, .int .i64 x.2.1, .int .i64 x.2.2], .pointer (some ⟨q, 0, none⟩)] wr (RetX (.bool (decide (x.2.1 = num))) wr)) := Lib.hid (kc_installed wr x v0 v1 q num ((World.cell?_of_block (HB.out.block q (World.block_lt_of_cell? w _ HQ.out))).trans HQ.out))
      clear hdr hcs hxe
      by_cases hi : x.2.1 = num
      · have hval : r = (k : Int) := by rw [hx, if_pos hi]
        have hd : decide (x.2.1 = num) = true := decide_eq_true hi
        rw [hd] at KC
        subst hval
        clear hx hi hd
        go_wp2_with (go_at_call 149; (with_reducible refine KC.out.mono ?_); rintro en w2 ⟨rfl, hb2⟩; have HB2 := Lib.hid hb2; clear hb2)
        go_ret
        exact ⟨rfl, HB.out.trans (HB2.out.mono HB.out.size)⟩
      · have hval : r = ixI num ((xs.map (fun x => x.2.1)).drop (k + 1)) (k + 1) := by rw [hx, if_neg hi]
        have hd : decide (x.2.1 = num) = false := decide_eq_false hi
        rw [hd] at KC
        have HVAL := Lib.hid hval
        clear hval hx hi hd
        go_wp2_with (go_at_call 149; (with_reducible refine KC.out.mono ?_); rintro en w2 ⟨rfl, hb2⟩; have HB2 := Lib.hid hb2; clear hb2)
        go_roundw
        case rel => exact ⟨k + 1, by omega, by simp, HB.out.trans (HB2.out.mono HB.out.size), HVAL⟩
        case measure => (first | (simp; omega) | (simp [intOf]; omega) | omega)
    · have hkI : ¬ (k : Int) < (n : Int) := by omega
      have hval : r = -1 := by rw [hx, List.drop_of_length_le (by rw [List.length_map, ← hn.out]; omega)]; rfl
      subst hval
      clear hx
      go_wp2_with fail
      go_ret
      exact ⟨rfl, HB.out⟩
set_option maxRecDepth 100000 in
set_option maxHeartbeats 2000000 in
theorem kc_table (W : World) (x : TableD) (v0 v1 v2 : Value) (q : Nat) (num : Int) (hq : W.cell? ⟨q, 0, none⟩ = some (.int .i64 num)) : Calls Tryz.prog 108 #[.agg #[.int .i64 x.id, .string (strL x.name), v0, v1, .int .i64 x.dflt, v2, .int .i64 x.size, .string (strL x.restr)], .pointer (some ⟨q, 0, none⟩)] W (RetX (.bool (decide (x.id = num))) W) := by
  have hb : Below W.heap.size W (W.alloc (.cells #[.int .i64 x.id, .string (strL x.name), v0, v1, .int .i64 x.dflt, v2, .int .i64 x.size, .string (strL x.restr)] 59)) := (Below.refl _ _).alloc (Nat.le_refl _) _
  have hl := World.block_lt_of_cell? W _ hq
  have h1 : (W.alloc (.cells #[.int .i64 x.id, .string (strL x.name), v0, v1, .int .i64 x.dflt, v2, .int .i64 x.size, .string (strL x.restr)] 59)).cell? ⟨q, 0, none⟩ = some (.int .i64 num) := (World.cell?_of_block (hb.block q hl)).trans hq
  have h2 : (W.alloc (.cells #[.int .i64 x.id, .string (strL x.name), v0, v1, .int .i64 x.dflt, v2, .int .i64 x.size, .string (strL x.restr)] 59)).cell? ⟨W.heap.size, 0, none⟩ = some (.int .i64 x.id) := blk_cell (heap_alloc_new W _) 0 _ rfl
  obtain ⟨V, hV⟩ : ∃ V, V = W.alloc (.cells #[.int .i64 x.id, .string (strL x.name), v0, v1, .int .i64 x.dflt, v2, .int .i64 x.size, .string (strL x.restr)] 59) := ⟨_, rfl⟩
  rw [← hV] at h1 h2 hb
  have HV := Lib.hid hV
  have HB := Lib.hid hb
  clear hV hb hq
  go_enter Tryz.func108, Tryz.ntmps108
  go_upto_region 1 with fail
  rw [← HV.out]
  clear HV
  go_wp2_with fail
  go_ret
  exact ⟨rfl, HB.out⟩
set_option maxRecDepth 100000 in
set_option maxHeartbeats 2000000 in
theorem ix_table {w : World} {B : Nat} {A : Option Addr} {n c : Nat} {xs : List TableD} (h : RowV 8 TableV B w (.slice A n c) xs) (hB : B ≤ w.heap.size) (q : Nat) (num : Int) (hq : w.cell? ⟨q, 0, none⟩ = some (.int .i64 num)) : Calls Tryz.prog 107 #[.slice A n c, .func (.func 108) #[] #[.pointer (some ⟨q, 0, none⟩)]] w (RetX (.int .i64 (ixI num (xs.map (fun x => x.id)) 0)) w) := by
  obtain ⟨hn, hc, hm⟩ := h.len
  have HR := Lib.hid h
  have HQ := Lib.hid hq
  obtain ⟨r, hr⟩ : ∃ r, r = ixI num (xs.map (fun x => x.id)) 0 := ⟨_, rfl⟩
  rw [← hr]
  have HRR := Lib.hid hr
  clear h hr hq
  go_enter Tryz.func107, Tryz.ntmps107
  go_wp2_with fail
  go_loopw [8] (fun i W => ∃ k : Nat, k ≤ n ∧ i = .int .i64 (k : Int) ∧ Below w.heap.size w W ∧ Hid (r = ixI num ((xs.map (fun x => x.id)).drop k) k)) (fun i _ => n - (intOf i).toNat)
  case atStart => exact ⟨0, by omega, rfl, Below.refl _ _, HRR⟩
  case round =>
    obtain ⟨k, hk, rfl, hb, hxh⟩ := hrel
    have HB := Lib.hid hb
    have hx := hxh.out
    clear hxh HRR hb
    by_cases hlt : k < n
    · have hkI : (k : Int) < (n : Int) := by omega
      have hkc : (k : Int) < (c : Int) := by omega
      have hk0 : 0 ≤ (k : Int) := by omega
      have hkx : k < xs.length := by rw [← hn.out]; exact hlt
      obtain ⟨b, oo, cs, hA, hbB, hcs, hV⟩ := rowK_at HR.out hkx
      have hdr : (xs.map (fun x => x.id)).drop k = ((fun x => x.id) (xs[k]'hkx)) :: (xs.map (fun x => x.id)).drop (k + 1) := by
        rw [List.drop_eq_getElem_cons (by rw [List.length_map]; exact hkx), List.getElem_map]
      rw [hdr, ixI] at hx
      obtain ⟨x, hxe⟩ : ∃ x, x = xs[k]'hkx := ⟨_, rfl⟩
      rw [← hxe] at hx hV
      subst hA
      obtain ⟨v0, v1, v2, rfl, -⟩ := hV
      have l0 : wr.cell? ⟨b, oo + k * 8, none⟩ = some (.int .i64 x.id) := (World.cell?_of_block (HB.out.block b (by omega))).trans (hcs 0 (by simp))
      have l1 : wr.cell? ⟨b, oo + k * 8 + 1, none⟩ = some (.string (strL x.name)) := (World.cell?_of_block (HB.out.block b (by omega))).trans (hcs 1 (by simp))
      have l2 : wr.cell? ⟨b, oo + k * 8 + 2, none⟩ = some (v0) := (World.cell?_of_block (HB.out.block b (by omega))).trans (hcs 2 (by simp))
      have l3 : wr.cell? ⟨b, oo + k * 8 + 3, none⟩ = some (v1) := (World.cell?_of_block (HB.out.block b (by omega))).trans (hcs 3 (by simp))
      have l4 : wr.cell? ⟨b, oo + k * 8 + 4, none⟩ = some (.int .i64 x.dflt) := (World.cell?_of_block (HB.out.block b (by omega))).trans (hcs 4 (by simp))
      have l5 : wr.cell? ⟨b, oo + k * 8 + 5, none⟩ = some (v2) := (World.cell?_of_block (HB.out.block b (by omega))).trans (hcs 5 (by simp))
      have l6 : wr.cell? ⟨b, oo + k * 8 + 6, none⟩ = some (.int .i64 x.size) := (World.cell?_of_block (HB.out.block b (by omega))).trans (hcs 6 (by simp))
      have l7 : wr.cell? ⟨b, oo + k * 8 + 7, none⟩ = some (.string (strL x.restr)) := (World.cell?_of_block (HB.out.block b (by omega))).trans (hcs 7 (by simp))
      have KC : Hid (Calls Tryz.prog 108 #[.agg #[.int .i64 x.id, .string (strL x.name), v0, v1, .int .i64 x.dflt, v2, .int .i64 x.size, .string (strL x.restr)], .pointer (some ⟨q, 0, none⟩)] wr (RetX (.bool (decide (x.id = num))) wr)) := Lib.hid (kc_table wr x v0 v1 v2 q num ((World.cell?_of_block (HB.out.block q (World.block_lt_of_cell? w _ HQ.out))).trans HQ.out))
      clear hdr hcs hxe
      by_cases hi : x.id = num
      · have hval : r = (k : Int) := by rw [hx, if_pos hi]
        have hd : decide (x.id = num) = true := decide_eq_true hi
        rw [hd] at KC
        subst hval
        clear hx hi hd
        go_wp2_with (go_at_call 108; (with_reducible refine KC.out.mono ?_); rintro en w2 ⟨rfl, hb2⟩; have HB2 := Lib.hid hb2; clear hb2)
        go_ret
        exact ⟨rfl, HB.out.trans (HB2.out.mono HB.out.size)⟩
      · have hval : r = ixI num ((xs.map (fun x => x.id)).drop (k + 1)) (k + 1) := by rw [hx, if_neg hi]
        have hd : decide (x.id = num) = false := decide_eq_false hi
        rw [hd] at KC
        have HVAL := Lib.hid hval
        clear hval hx hi hd
        go_wp2_with (go_at_call 108; (with_reducible refine KC.out.mono ?_); rintro en w2 ⟨rfl, hb2⟩; have HB2 := Lib.hid hb2; clear hb2)
        go_roundw
        case rel => exact ⟨k + 1, by omega, by simp, HB.out.trans (HB2.out.mono HB.out.size), HVAL⟩
        case measure => (first | (simp; omega) | (simp [intOf]; omega) | omega)
    · have hkI : ¬ (k : Int) < (n : Int) := by omega
      have hval : r = -1 := by rw [hx, List.drop_of_length_le (by rw [List.length_map, ← hn.out]; omega)]; rfl
      subst hval
      clear hx
      go_wp2_with fail
      go_ret
      exact ⟨rfl, HB.out⟩
set_option maxRecDepth 100000 in
set_option maxHeartbeats 2000000 in
theorem kc_field (W : World) (x : FieldD) (q : Nat) (num : Int) (hq : W.cell? ⟨q, 0, none⟩ = some (.int .i64 num)) : Calls Tryz.prog 187 #[.agg #[.int .i64 x.id, .string (strL x.name), .int .i64 x.bits], .pointer (some ⟨q, 0, none⟩)] W (RetX (.bool (decide (x.id = num))) W) := by
  have hb : Below W.heap.size W (W.alloc (.cells #[.int .i64 x.id, .string (strL x.name), .int .i64 x.bits] 112)) := (Below.refl _ _).alloc (Nat.le_refl _) _
  have hl := World.block_lt_of_cell? W _ hq
  have h1 : (W.alloc (.cells #[.int .i64 x.id, .string (strL x.name), .int .i64 x.bits] 112)).cell? ⟨q, 0, none⟩ = some (.int .i64 num) := (World.cell?_of_block (hb.block q hl)).trans hq
  have h2 : (W.alloc (.cells #[.int .i64 x.id, .string (strL x.name), .int .i64 x.bits] 112)).cell? ⟨W.heap.size, 0, none⟩ = some (.int .i64 x.id) := blk_cell (heap_alloc_new W _) 0 _ rfl
  obtain ⟨V, hV⟩ : ∃ V, V = W.alloc (.cells #[.int .i64 x.id, .string (strL x.name), .int .i64 x.bits] 112) := ⟨_, rfl⟩
  rw [← hV] at h1 h2 hb
  have HV := Lib.hid hV
  have HB := Lib.hid hb
  clear hV hb hq
  go_enter Tryz.func187, Tryz.ntmps187
  go_upto_region 1 with fail
  rw [← HV.out]
  clear HV
  go_wp2_with fail
  go_ret
  exact ⟨rfl, HB.out⟩
set_option maxRecDepth 100000 in
set_option maxHeartbeats 2000000 in
theorem ix_field {w : World} {B : Nat} {A : Option Addr} {n c : Nat} {xs : List FieldD} (h : RowV 3 FieldV B w (.slice A n c) xs) (hB : B ≤ w.heap.size) (q : Nat) (num : Int) (hq : w.cell? ⟨q, 0, none⟩ = some (.int .i64 num)) : Calls Tryz.prog 186 #[.slice A n c, .func (.func 187) #[] #[.pointer (some ⟨q, 0, none⟩)]] w (RetX (.int .i64 (ixI num (xs.map (fun x => x.id)) 0)) w) := by
  obtain ⟨hn, hc, hm⟩ := h.len
  have HR := Lib.hid h
  have HQ := Lib.hid hq
  obtain ⟨r, hr⟩ : ∃ r, r = ixI num (xs.map (fun x => x.id)) 0 := ⟨_, rfl⟩
  rw [← hr]
  have HRR := Lib.hid hr
  clear h hr hq
  go_enter Tryz.func186, Tryz.ntmps186
  go_wp2_with fail
  go_loopw [8] (fun i W => ∃ k : Nat, k ≤ n ∧ i = .int .i64 (k : Int) ∧ Below w.heap.size w W ∧ Hid (r = ixI num ((xs.map (fun x => x.id)).drop k) k)) (fun i _ => n - (intOf i).toNat)
  case atStart => exact ⟨0, by omega, rfl, Below.refl _ _, HRR⟩
  case round =>
    obtain ⟨k, hk, rfl, hb, hxh⟩ := hrel
    have HB := Lib.hid hb
    have hx := hxh.out
    clear hxh HRR hb
    by_cases hlt : k < n
    · have hkI : (k : Int) < (n : Int) := by omega
      have hkc : (k : Int) < (c : Int) := by omega
      have hk0 : 0 ≤ (k : Int) := by omega
      have hkx : k < xs.length := by rw [← hn.out]; exact hlt
      obtain ⟨b, oo, cs, hA, hbB, hcs, hV⟩ := rowK_at HR.out hkx
      have hdr : (xs.map (fun x => x.id)).drop k = ((fun x => x.id) (xs[k]'hkx)) :: (xs.map (fun x => x.id)).drop (k + 1) := by
        rw [List.drop_eq_getElem_cons (by rw [List.length_map]; exact hkx), List.getElem_map]
      rw [hdr, ixI] at hx
      obtain ⟨x, hxe⟩ : ∃ x, x = xs[k]'hkx := ⟨_, rfl⟩
      rw [← hxe] at hx hV
      subst hA
      obtain ⟨rfl, -⟩ := hV
      have l0 : wr.cell? ⟨b, oo + k * 3, none⟩ = some (.int .i64 x.id) := (World.cell?_of_block (HB.out.block b (by omega))).trans (hcs 0 (by simp))
      have l1 : wr.cell? ⟨b, oo + k * 3 + 1, none⟩ = some (.string (strL x.name)) := (World.cell?_of_block (HB.out.block b (by omega))).trans (hcs 1 (by simp))
      have l2 : wr.cell? ⟨b, oo + k * 3 + 2, none⟩ = some (.int .i64 x.bits) := (World.cell?_of_block (HB.out.block b (by omega))).trans (hcs 2 (by simp))
      have KC : Hid (Calls Tryz.prog 187 #[.agg #[.int .i64 x.id, .string (strL x.name), .int .i64 x.bits], .pointer (some ⟨q, 0, none⟩)] wr (RetX (.bool (decide (x.id = num))) wr)) := Lib.hid (kc_field wr x  q num ((World.cell?_of_block (HB.out.block q (World.block_lt_of_cell? w _ HQ.out))).trans HQ.out))
      clear hdr hcs hxe
      by_cases hi : x.id = num
      · have hval : r = (k : Int) := by rw [hx, if_pos hi]
        have hd : decide (x.id = num) = true := decide_eq_true hi
        rw [hd] at KC
        subst hval
        clear hx hi hd
        go_wp2_with (go_at_call 187; (with_reducible refine KC.out.mono ?_); rintro en w2 ⟨rfl, hb2⟩; have HB2 := Lib.hid hb2; clear hb2)
        go_ret
        exact ⟨rfl, HB.out.trans (HB2.out.mono HB.out.size)⟩
      · have hval : r = ixI num ((xs.map (fun x => x.id)).drop (k + 1)) (k + 1) := by rw [hx, if_neg hi]
        have hd : decide (x.id = num) = false := decide_eq_false hi
        rw [hd] at KC
        have HVAL := Lib.hid hval
        clear hval hx hi hd
        go_wp2_with (go_at_call 187; (with_reducible refine KC.out.mono ?_); rintro en w2 ⟨rfl, hb2⟩; have HB2 := Lib.hid hb2; clear hb2)
        go_roundw
        case rel => exact ⟨k + 1, by omega, by simp, HB.out.trans (HB2.out.mono HB.out.size), HVAL⟩
        case measure => (first | (simp; omega) | (simp [intOf]; omega) | omega)
    · have hkI : ¬ (k : Int) < (n : Int) := by omega
      have hval : r = -1 := by rw [hx, List.drop_of_length_le (by rw [List.length_map, ← hn.out]; omega)]; rfl
      subst hval
      clear hx
      go_wp2_with fail
      go_ret
      exact ⟨rfl, HB.out⟩
end Go.Proofs.YtldgjahpmlafgaaGreat
