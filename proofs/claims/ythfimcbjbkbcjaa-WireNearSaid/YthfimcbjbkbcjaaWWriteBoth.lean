/- write of the law: an element is appended by the program and by the reference. -/
import Derived.Test.YthfimcbjbkbcjaaWReadBoth
namespace Go.Proofs.Ythfimcbjbkbcjaa
open Go.RowKit
attribute [local go_sem ↓] Go.wp_at_zero Go.wp_at_succ

/-- The call returns two slices that hold the same bytes; nothing below block B is changed. -/
def WriteRet (B : Nat) (la : List Nat) (w : World) (en : Ending) (w' : World) : Prop :=
  ∃ l' A n cap g v', en = .returned (.tuple #[.slice A n cap, v']) ∧ Hid (n = l'.length) ∧ ReadsL w' g A l' ∧ Own w' B v' l' ∧ Below B w w' ∧ Small l' ∧ l'.length ≤ la.length + 60 ∧ v'.ownBlock ≠ some g
theorem ReadsL.drew {w : World} {D : Nat} {A : Option Addr} {l : List Nat} (h : ReadsL w D A l) : ReadsL w.drew D A l := h
theorem Own.drew {w : World} {B : Nat} {v : Value} {l : List Nat} (h : Own w B v l) : Own w.drew B v l := World.ownsRow.drew h
theorem reads_past {w w' : World} {D B : Nat} {A : Option Addr} {l : List Nat} (h : ReadsL w D A l) (hb : Below B w w') (hD : l ≠ [] → D < B) : ReadsL w' D A l := by
  rcases h with h | ⟨o, rfl, hlt, hc⟩
  · exact .inl h
  · by_cases hl : l = []
    · exact .inl hl
    · exact .inr ⟨o, rfl, Nat.lt_of_lt_of_le hlt hb.size, fun i hi => by rw [hb.cell (p := ⟨D, o + i, none⟩) (hD hl)]; exact hc i hi⟩
/-- The end of write. -/
theorem write_end {B : Nat} {la x : List Nat} {w Wd w1 w2 : World} {v v2 : Value} {A : Option Addr} {n cap g : Nat} (hb0 : Below B w Wd) (hBd : B ≤ Wd.heap.size) (hO : Own Wd B v la) (hn : Hid (n = (la ++ x).length)) (hr : ReadsL w1 g A (la ++ x)) (hg : Wd.heap.size ≤ g) (hq : g < w1.heap.size)
    (hb : Below Wd.heap.size Wd w1) (hO2 : Own w2 B v2 (la ++ x)) (hg2 : w1.grownBy w2 v.ownBlock) (ha2 : At w1 v v2) (hs : Small la) (hx : Small x) (hxl : x.length ≤ 60) :
    WriteRet B la w (.returned (.tuple #[.slice A n cap, v2])) w2 := by
  have hv := World.ownsRow.lt hO
  refine ⟨_, A, n, cap, g, v2, rfl, hn, hr.kept hg2 (fun e => ?_), hO2, ?_, hs.append hx, by rw [List.length_append]; omega, fun e => ?_⟩
  · have := (hv g e).2; omega
  · exact (hb0.trans (hb.mono hBd)).grown hg2 (Nat.le_trans hBd hb.size) fun k hk => (hv k hk).1
  · rcases ha2 with h | ⟨g', h, hge⟩
    · rw [h] at e; have := (hv g e).2; omega
    · rw [h] at e; injection e with e; omega
theorem reads_own {w w' : World} {D : Nat} {A : Option Addr} {l : List Nat} {v : Value} (h : ReadsL w D A l) (hg : w.grownBy w' v.ownBlock) (hD : l ≠ [] → v.ownBlock ≠ some D) : ReadsL w' D A l := by
  by_cases hl : l = []
  · exact .inl hl
  · exact h.kept hg (hD hl)
theorem rabytes_any2 (v : Value) (l : List Nat) (B : Nat) (w : World) (A2 : Option Addr) (D2 n2 cap2 : Nat) (x : List Nat) (hO : Own w B v l) (hB : B ≤ w.heap.size) (hl : l.length ≤ 4000000) (hr2 : ReadsL w D2 A2 x) (hl2 : x.length = n2) (hn2 : n2 ≤ 65535) (hc2 : n2 ≤ cap2) (hd : x ≠ [] → v.ownBlock ≠ some D2) :
    Calls Try.prog 33 #[v, .slice A2 n2 cap2] w (Grows B (l ++ encU n2 2 ++ x) v w) := by
  by_cases hx : x = []
  · exact rabytes_any v l B w A2 w.heap.size n2 cap2 x hO hB hl (.inl hx) hl2 hn2 hc2 (fun e => by have := (World.ownsRow.lt hO _ e).2; omega)
  · exact rabytes_any v l B w A2 D2 n2 cap2 x hO hB hl hr2 hl2 hn2 hc2 (hd hx)
section
variable (B : Nat) (la : List Nat) (Aa : Option Addr) (Da na ca : Nat) (v : Value) (w : World)
variable (kind nn most : Int) (val : Nat) (sA : Option Addr) (sn sc : Nat)
set_option maxRecDepth 100000 in
set_option maxHeartbeats 2000000 in
theorem write_0 (mm : Nat) (hmm : mm = min sn 40) (hsc : sn ≤ sc) (hand : kind.tmod 6 = 0) (j : Nat) (hj1 : 1 ≤ j) (hj4 : j ≤ 4) (hn1 : -9223372036854775808 ≤ nn) (hn2 : nn ≤ 9223372036854775807) (hO : Own w B v la) (hr : ReadsL w Da Aa la) (hl : la.length = na) (hs : Small la) (hla : la.length ≤ 100000) (hB : B ≤ w.heap.size) :
    Calls Try.prog 8 #[.slice Aa na ca, v, .agg #[.int .i64 kind, .int .i64 nn, .int .i64 j, .int .u64 (hi val), .int .u64 (lo val), .slice sA sn sc]] w (WriteRet B la w) := by
  have HN1 := Lib.hid hn1
  have HN2 := Lib.hid hn2
  clear hn1 hn2
  have hmin : min (sn : Int) 40 = (mm : Int) := by omega
  have hmc : (mm : Int) ≤ (sc : Int) := by omega
  have hm40 : mm ≤ 40 := by omega
  have hna : na ≤ 100000 := by omega
  have HAr : Hid (ReadsL (w.alloc (.cells #[.int .i64 kind, .int .i64 nn, .int .i64 j, .int .u64 (hi val), .int .u64 (lo val), .slice sA sn sc] 28)).drew Da Aa la) := Lib.hid (ReadsL.drew (hr.kept (w' := (w.alloc (.cells #[.int .i64 kind, .int .i64 nn, .int .i64 j, .int .u64 (hi val), .int .u64 (lo val), .slice sA sn sc] 28))) (row := none) (grown_alloc w (.cells #[.int .i64 kind, .int .i64 nn, .int .i64 j, .int .u64 (hi val), .int .u64 (lo val), .slice sA sn sc] 28) none) (by simp)))
  have HOr : Hid (Own (w.alloc (.cells #[.int .i64 kind, .int .i64 nn, .int .i64 j, .int .u64 (hi val), .int .u64 (lo val), .slice sA sn sc] 28)).drew B v la) := Lib.hid (hO.alloc _).drew
  have HL := Lib.hid hl
  have HVL : Hid (some w.heap.size ≠ v.ownBlock) := Lib.hid (fun e => by have := (World.ownsRow.lt hO _ e.symm).2; omega)
  have b0 : Below B w (w.alloc (.cells #[.int .i64 kind, .int .i64 nn, .int .i64 j, .int .u64 (hi val), .int .u64 (lo val), .slice sA sn sc] 28)).drew := ((Below.refl B w).alloc hB _).drew
  clear hr hO hl hmm
  go_enter Try.func8, Try.ntmps8
  go_wp2
  go_region_held3 (fun w' => w'.cell? ⟨w.heap.size, 1, none⟩ = some (.int .i64 nn) ∧ w'.cell? ⟨w.heap.size, 2, none⟩ = some (.int .i64 j)) (go_keep) (first
    | (go_at_call 26; (refine (auint_any Aa Da na ca la _ nn j hj1 hj4 HN1.out HN2.out HAr.out HL.out (by omega)).mono ?_; rintro en w1 ⟨A1, n1, cap1, g1, rfl, hn1, hr1, hg1, hq1, hb1⟩; have k1 : ∀ o, w1.cell? ⟨w.heap.size, o, none⟩ = (w.alloc (.cells #[.int .i64 kind, .int .i64 nn, .int .i64 j, .int .u64 (hi val), .int .u64 (lo val), .slice sA sn sc] 28)).drew.cell? ⟨w.heap.size, o, none⟩ := (fun o => hb1.cell (p := ⟨w.heap.size, o, none⟩) (by simp)); have HO1 := Lib.hid (HOr.out.below hb1); have HBB : B ≤ w1.heap.size := (by have := hb1.size; simp at this; omega); skip))
    | (go_at_call 31; (refine (rnum_any v nn j la B _ hj1 hj4 HN1.out HN2.out (by omega) HBB HO1.out).mono ?_; rintro en w2 ⟨v2, rfl, hO2, hg2, ha2⟩; have k2 : ∀ o, w2.cell? ⟨w.heap.size, o, none⟩ = w1.cell? ⟨w.heap.size, o, none⟩ := (fun o => cell_kept hg2 (by have := hb1.size; simp at this; omega) HVL.out); skip)))
  go_wp2
  go_ret2
  exact write_end (x := encU nn j) b0 (by simp; omega) HOr.out (by simpa using hn1) (by simpa using hr1) hg1 hq1 hb1 (by simpa using hO2) hg2 ha2 hs (encU_small nn j) (by rw [encU_len]; omega)
set_option maxRecDepth 100000 in
set_option maxHeartbeats 2000000 in
theorem write_0b (mm : Nat) (hmm : mm = min sn 40) (hsc : sn ≤ sc) (hand : kind.tmod 6 = 0) (hbad : most < 1 ∨ 4 < most) (hO : Own w B v la) (hr : ReadsL w Da Aa la) (hl : la.length = na) (hs : Small la) (hla : la.length ≤ 100000) (hB : B ≤ w.heap.size) :
    Calls Try.prog 8 #[.slice Aa na ca, v, .agg #[.int .i64 kind, .int .i64 nn, .int .i64 most, .int .u64 (hi val), .int .u64 (lo val), .slice sA sn sc]] w (WriteRet B la w) := by
  have HBAD := Lib.hid hbad
  clear hbad
  have hmin : min (sn : Int) 40 = (mm : Int) := by omega
  have hmc : (mm : Int) ≤ (sc : Int) := by omega
  have hm40 : mm ≤ 40 := by omega
  have hna : na ≤ 100000 := by omega
  have HAr : Hid (ReadsL (w.alloc (.cells #[.int .i64 kind, .int .i64 nn, .int .i64 most, .int .u64 (hi val), .int .u64 (lo val), .slice sA sn sc] 28)).drew Da Aa la) := Lib.hid (ReadsL.drew (hr.kept (w' := (w.alloc (.cells #[.int .i64 kind, .int .i64 nn, .int .i64 most, .int .u64 (hi val), .int .u64 (lo val), .slice sA sn sc] 28))) (row := none) (grown_alloc w (.cells #[.int .i64 kind, .int .i64 nn, .int .i64 most, .int .u64 (hi val), .int .u64 (lo val), .slice sA sn sc] 28) none) (by simp)))
  have HOr : Hid (Own (w.alloc (.cells #[.int .i64 kind, .int .i64 nn, .int .i64 most, .int .u64 (hi val), .int .u64 (lo val), .slice sA sn sc] 28)).drew B v la) := Lib.hid (hO.alloc _).drew
  have HL := Lib.hid hl
  have HVL : Hid (some w.heap.size ≠ v.ownBlock) := Lib.hid (fun e => by have := (World.ownsRow.lt hO _ e.symm).2; omega)
  have b0 : Below B w (w.alloc (.cells #[.int .i64 kind, .int .i64 nn, .int .i64 most, .int .u64 (hi val), .int .u64 (lo val), .slice sA sn sc] 28)).drew := ((Below.refl B w).alloc hB _).drew
  clear hr hO hl hmm
  go_enter Try.func8, Try.ntmps8
  go_wp2
  go_region_held3 (fun w' => w'.cell? ⟨w.heap.size, 1, none⟩ = some (.int .i64 nn) ∧ w'.cell? ⟨w.heap.size, 2, none⟩ = some (.int .i64 most)) (go_keep) (first
    | (go_at_call 26; (refine (auint_bad Aa Da na ca la _ nn most HBAD.out HAr.out HL.out (by omega)).mono ?_; rintro en w1 ⟨A1, n1, cap1, g1, rfl, hn1, hr1, hg1, hq1, hb1⟩; have k1 : ∀ o, w1.cell? ⟨w.heap.size, o, none⟩ = (w.alloc (.cells #[.int .i64 kind, .int .i64 nn, .int .i64 most, .int .u64 (hi val), .int .u64 (lo val), .slice sA sn sc] 28)).drew.cell? ⟨w.heap.size, o, none⟩ := (fun o => hb1.cell (p := ⟨w.heap.size, o, none⟩) (by simp)); have HO1 := Lib.hid (HOr.out.below hb1); have HBB : B ≤ w1.heap.size := (by have := hb1.size; simp at this; omega); skip))
    | (go_at_call 31; (refine (rnum_bad v nn most _ HBAD.out).mono ?_; rintro en w2 ⟨rfl, rfl⟩)))
  go_wp2
  go_ret2
  exact write_end (x := []) b0 (by simp; omega) HOr.out (by simpa using hn1) (by simpa using hr1) hg1 hq1 hb1 (by simpa using HO1.out) (World.grownBy.refl _ _) (.inl rfl) hs (Small.nil) (by simp)
set_option maxRecDepth 100000 in
set_option maxHeartbeats 2000000 in
theorem write_1 (mm : Nat) (hmm : mm = min sn 40) (hsc : sn ≤ sc) (hand : kind.tmod 6 = 1) (j : Nat) (hj1 : 1 ≤ j) (hj4 : j ≤ 4) (hmost : 1 + most % 4 = j) (hn1 : -9223372036854775808 ≤ nn) (hn2 : nn ≤ 9223372036854775807) (hO : Own w B v la) (hr : ReadsL w Da Aa la) (hl : la.length = na) (hs : Small la) (hla : la.length ≤ 100000) (hB : B ≤ w.heap.size) :
    Calls Try.prog 8 #[.slice Aa na ca, v, .agg #[.int .i64 kind, .int .i64 nn, .int .i64 most, .int .u64 (hi val), .int .u64 (lo val), .slice sA sn sc]] w (WriteRet B la w) := by
  have hm : bits .and .i64 most 3 = most % 4 := i64_mask most 2 (by decide)
  have hw : IntKind.i64.wrap (1 + most % 4) = (j : Int) := by rw [IntWalk.i64_in _ (by omega)]; exact hmost
  clear hmost
  have HN1 := Lib.hid hn1
  have HN2 := Lib.hid hn2
  clear hn1 hn2
  have hmin : min (sn : Int) 40 = (mm : Int) := by omega
  have hmc : (mm : Int) ≤ (sc : Int) := by omega
  have hm40 : mm ≤ 40 := by omega
  have hna : na ≤ 100000 := by omega
  have HAr : Hid (ReadsL (w.alloc (.cells #[.int .i64 kind, .int .i64 nn, .int .i64 most, .int .u64 (hi val), .int .u64 (lo val), .slice sA sn sc] 28)).drew Da Aa la) := Lib.hid (ReadsL.drew (hr.kept (w' := (w.alloc (.cells #[.int .i64 kind, .int .i64 nn, .int .i64 most, .int .u64 (hi val), .int .u64 (lo val), .slice sA sn sc] 28))) (row := none) (grown_alloc w (.cells #[.int .i64 kind, .int .i64 nn, .int .i64 most, .int .u64 (hi val), .int .u64 (lo val), .slice sA sn sc] 28) none) (by simp)))
  have HOr : Hid (Own (w.alloc (.cells #[.int .i64 kind, .int .i64 nn, .int .i64 most, .int .u64 (hi val), .int .u64 (lo val), .slice sA sn sc] 28)).drew B v la) := Lib.hid (hO.alloc _).drew
  have HL := Lib.hid hl
  have HVL : Hid (some w.heap.size ≠ v.ownBlock) := Lib.hid (fun e => by have := (World.ownsRow.lt hO _ e.symm).2; omega)
  have b0 : Below B w (w.alloc (.cells #[.int .i64 kind, .int .i64 nn, .int .i64 most, .int .u64 (hi val), .int .u64 (lo val), .slice sA sn sc] 28)).drew := ((Below.refl B w).alloc hB _).drew
  clear hr hO hl hmm
  go_enter Try.func8, Try.ntmps8
  go_wp2
  go_region_held3 (fun w' => w'.cell? ⟨w.heap.size, 1, none⟩ = some (.int .i64 nn) ∧ w'.cell? ⟨w.heap.size, 2, none⟩ = some (.int .i64 most)) (go_keep) (first
    | (go_at_call 26; (refine (auint_any Aa Da na ca la _ nn j hj1 hj4 HN1.out HN2.out HAr.out HL.out (by omega)).mono ?_; rintro en w1 ⟨A1, n1, cap1, g1, rfl, hn1, hr1, hg1, hq1, hb1⟩; have k1 : ∀ o, w1.cell? ⟨w.heap.size, o, none⟩ = (w.alloc (.cells #[.int .i64 kind, .int .i64 nn, .int .i64 most, .int .u64 (hi val), .int .u64 (lo val), .slice sA sn sc] 28)).drew.cell? ⟨w.heap.size, o, none⟩ := (fun o => hb1.cell (p := ⟨w.heap.size, o, none⟩) (by simp)); have HO1 := Lib.hid (HOr.out.below hb1); have HBB : B ≤ w1.heap.size := (by have := hb1.size; simp at this; omega); skip))
    | (go_at_call 31; (refine (rnum_any v nn j la B _ hj1 hj4 HN1.out HN2.out (by omega) HBB HO1.out).mono ?_; rintro en w2 ⟨v2, rfl, hO2, hg2, ha2⟩; have k2 : ∀ o, w2.cell? ⟨w.heap.size, o, none⟩ = w1.cell? ⟨w.heap.size, o, none⟩ := (fun o => cell_kept hg2 (by have := hb1.size; simp at this; omega) HVL.out); skip)))
  go_wp2
  go_ret2
  exact write_end (x := encU nn j) b0 (by simp; omega) HOr.out (by simpa using hn1) (by simpa using hr1) hg1 hq1 hb1 (by simpa using hO2) hg2 ha2 hs (encU_small nn j) (by rw [encU_len]; omega)
set_option maxRecDepth 100000 in
set_option maxHeartbeats 2000000 in
theorem write_2 (mm : Nat) (hmm : mm = min sn 40) (hsc : sn ≤ sc) (hand : kind.tmod 6 = 2) (bb : Bool) (hbb : (nn % 2 == 1) = bb) (hO : Own w B v la) (hr : ReadsL w Da Aa la) (hl : la.length = na) (hs : Small la) (hla : la.length ≤ 100000) (hB : B ≤ w.heap.size) :
    Calls Try.prog 8 #[.slice Aa na ca, v, .agg #[.int .i64 kind, .int .i64 nn, .int .i64 most, .int .u64 (hi val), .int .u64 (lo val), .slice sA sn sc]] w (WriteRet B la w) := by
  have hm : bits .and .i64 nn 1 = nn % 2 := i64_mask nn 1 (by decide)
  have hmin : min (sn : Int) 40 = (mm : Int) := by omega
  have hmc : (mm : Int) ≤ (sc : Int) := by omega
  have hm40 : mm ≤ 40 := by omega
  have hna : na ≤ 100000 := by omega
  have HAr : Hid (ReadsL (w.alloc (.cells #[.int .i64 kind, .int .i64 nn, .int .i64 most, .int .u64 (hi val), .int .u64 (lo val), .slice sA sn sc] 28)).drew Da Aa la) := Lib.hid (ReadsL.drew (hr.kept (w' := (w.alloc (.cells #[.int .i64 kind, .int .i64 nn, .int .i64 most, .int .u64 (hi val), .int .u64 (lo val), .slice sA sn sc] 28))) (row := none) (grown_alloc w (.cells #[.int .i64 kind, .int .i64 nn, .int .i64 most, .int .u64 (hi val), .int .u64 (lo val), .slice sA sn sc] 28) none) (by simp)))
  have HOr : Hid (Own (w.alloc (.cells #[.int .i64 kind, .int .i64 nn, .int .i64 most, .int .u64 (hi val), .int .u64 (lo val), .slice sA sn sc] 28)).drew B v la) := Lib.hid (hO.alloc _).drew
  have HL := Lib.hid hl
  have HVL : Hid (some w.heap.size ≠ v.ownBlock) := Lib.hid (fun e => by have := (World.ownsRow.lt hO _ e.symm).2; omega)
  have b0 : Below B w (w.alloc (.cells #[.int .i64 kind, .int .i64 nn, .int .i64 most, .int .u64 (hi val), .int .u64 (lo val), .slice sA sn sc] 28)).drew := ((Below.refl B w).alloc hB _).drew
  clear hr hO hl hmm
  go_enter Try.func8, Try.ntmps8
  go_wp2
  go_region_held3 (fun w' => w'.cell? ⟨w.heap.size, 1, none⟩ = some (.int .i64 nn)) (go_keep) (first
    | (go_at_call 27; (refine (abool_any Aa Da na ca la _ bb HAr.out HL.out (by omega)).mono ?_; rintro en w1 ⟨A1, n1, cap1, g1, rfl, hn1, hr1, hg1, hq1, hb1⟩; have k1 : ∀ o, w1.cell? ⟨w.heap.size, o, none⟩ = (w.alloc (.cells #[.int .i64 kind, .int .i64 nn, .int .i64 most, .int .u64 (hi val), .int .u64 (lo val), .slice sA sn sc] 28)).drew.cell? ⟨w.heap.size, o, none⟩ := (fun o => hb1.cell (p := ⟨w.heap.size, o, none⟩) (by simp)); have HO1 := Lib.hid (HOr.out.below hb1); have HBB : B ≤ w1.heap.size := (by have := hb1.size; simp at this; omega); skip))
    | (go_at_call 32; (refine (rabool_any v la B _ bb HO1.out HBB (by omega)).mono ?_; rintro en w2 ⟨v2, rfl, hO2, hg2, ha2⟩; have k2 : ∀ o, w2.cell? ⟨w.heap.size, o, none⟩ = w1.cell? ⟨w.heap.size, o, none⟩ := (fun o => cell_kept hg2 (by have := hb1.size; simp at this; omega) HVL.out); skip)))
  go_wp2
  go_ret2
  exact write_end (x := [if bb = true then 1 else 0]) b0 (by simp; omega) HOr.out (by simpa using hn1) (by simpa using hr1) hg1 hq1 hb1 (by simpa using hO2) hg2 ha2 hs (by intro y hy; have := List.mem_singleton.1 hy; subst this; cases bb <;> decide) (by simp)
set_option maxRecDepth 100000 in
set_option maxHeartbeats 2000000 in
theorem write_3 (mm : Nat) (hmm : mm = min sn 40) (hsc : sn ≤ sc) (hand : kind.tmod 6 = 3) (sD : Nat) (xs : List Nat) (hxl : xs.length = mm) (hxr : ReadsL w sD sA xs) (hxs : Small xs) (hxD : xs ≠ [] → sD < B) (hO : Own w B v la) (hr : ReadsL w Da Aa la) (hl : la.length = na) (hs : Small la) (hla : la.length ≤ 100000) (hB : B ≤ w.heap.size) :
    Calls Try.prog 8 #[.slice Aa na ca, v, .agg #[.int .i64 kind, .int .i64 nn, .int .i64 most, .int .u64 (hi val), .int .u64 (lo val), .slice sA sn sc]] w (WriteRet B la w) := by
  have HXr : Hid (ReadsL (w.alloc (.cells #[.int .i64 kind, .int .i64 nn, .int .i64 most, .int .u64 (hi val), .int .u64 (lo val), .slice sA sn sc] 28)) sD sA xs) := Lib.hid (hxr.kept (w' := (w.alloc (.cells #[.int .i64 kind, .int .i64 nn, .int .i64 most, .int .u64 (hi val), .int .u64 (lo val), .slice sA sn sc] 28))) (row := none) (grown_alloc w (.cells #[.int .i64 kind, .int .i64 nn, .int .i64 most, .int .u64 (hi val), .int .u64 (lo val), .slice sA sn sc] 28) none) (by simp))
  have HXL := Lib.hid hxl
  have HXD2 : Hid (xs ≠ [] → sD < (w.alloc (.cells #[.int .i64 kind, .int .i64 nn, .int .i64 most, .int .u64 (hi val), .int .u64 (lo val), .slice sA sn sc] 28)).heap.size) := Lib.hid (fun h => by have := hxD h; simp; omega)
  have HVD : Hid (xs ≠ [] → v.ownBlock ≠ some sD) := Lib.hid (fun h e => by have := (World.ownsRow.lt hO _ e).1; have := hxD h; omega)
  have hmin : min (sn : Int) 40 = (mm : Int) := by omega
  have hmc : (mm : Int) ≤ (sc : Int) := by omega
  have hm40 : mm ≤ 40 := by omega
  have hna : na ≤ 100000 := by omega
  have HAr : Hid (ReadsL (w.alloc (.cells #[.int .i64 kind, .int .i64 nn, .int .i64 most, .int .u64 (hi val), .int .u64 (lo val), .slice sA sn sc] 28)) Da Aa la) := Lib.hid (hr.kept (w' := (w.alloc (.cells #[.int .i64 kind, .int .i64 nn, .int .i64 most, .int .u64 (hi val), .int .u64 (lo val), .slice sA sn sc] 28))) (row := none) (grown_alloc w (.cells #[.int .i64 kind, .int .i64 nn, .int .i64 most, .int .u64 (hi val), .int .u64 (lo val), .slice sA sn sc] 28) none) (by simp))
  have HOr : Hid (Own (w.alloc (.cells #[.int .i64 kind, .int .i64 nn, .int .i64 most, .int .u64 (hi val), .int .u64 (lo val), .slice sA sn sc] 28)) B v la) := Lib.hid (hO.alloc _)
  have HL := Lib.hid hl
  have HVL : Hid (some w.heap.size ≠ v.ownBlock) := Lib.hid (fun e => by have := (World.ownsRow.lt hO _ e.symm).2; omega)
  have b0 : Below B w (w.alloc (.cells #[.int .i64 kind, .int .i64 nn, .int .i64 most, .int .u64 (hi val), .int .u64 (lo val), .slice sA sn sc] 28)) := ((Below.refl B w).alloc hB _)
  clear hr hO hl hmm
  go_enter Try.func8, Try.ntmps8
  go_wp2_with (first
    | (go_at_call 29; (refine (abytes_any Aa Da na ca la _ sA sD mm sc xs HAr.out HL.out (by omega) HXr.out HXL.out (by omega) (by omega)).mono ?_; rintro en w1 ⟨A1, n1, cap1, g1, rfl, hn1, hr1, hg1, hq1, hb1⟩; have k1 : ∀ o, w1.cell? ⟨w.heap.size, o, none⟩ = (w.alloc (.cells #[.int .i64 kind, .int .i64 nn, .int .i64 most, .int .u64 (hi val), .int .u64 (lo val), .slice sA sn sc] 28)).cell? ⟨w.heap.size, o, none⟩ := (fun o => hb1.cell (p := ⟨w.heap.size, o, none⟩) (by simp)); have HO1 := Lib.hid (HOr.out.below hb1); have HBB : B ≤ w1.heap.size := (by have := hb1.size; simp at this; omega); skip))
    | (go_at_call 33; (refine (rabytes_any2 v la B _ sA sD mm sc xs HO1.out HBB (by omega) (reads_past HXr.out hb1 HXD2.out) HXL.out (by omega) (by omega) HVD.out).mono ?_; rintro en w2 ⟨v2, rfl, hO2, hg2, ha2⟩; have k2 : ∀ o, w2.cell? ⟨w.heap.size, o, none⟩ = w1.cell? ⟨w.heap.size, o, none⟩ := (fun o => cell_kept hg2 (by have := hb1.size; simp at this; omega) HVL.out); skip)))
  go_ret2
  exact write_end (x := (encU mm 2 ++ xs)) b0 (by simp; omega) HOr.out (by simpa using hn1) (by simpa using hr1) hg1 hq1 hb1 (by simpa using hO2) hg2 ha2 hs ((encU_small _ 2).append hxs) (by rw [List.length_append, encU_len, hxl]; omega)
set_option maxRecDepth 100000 in
set_option maxHeartbeats 2000000 in
theorem write_4 (mm : Nat) (hmm : mm = min sn 40) (hsc : sn ≤ sc) (hand : kind.tmod 6 = 4) (sD : Nat) (xs : List Nat) (hxl : xs.length = mm) (hxr : ReadsL w sD sA xs) (hxs : Small xs) (hxD : xs ≠ [] → sD < B) (hO : Own w B v la) (hr : ReadsL w Da Aa la) (hl : la.length = na) (hs : Small la) (hla : la.length ≤ 100000) (hB : B ≤ w.heap.size) :
    Calls Try.prog 8 #[.slice Aa na ca, v, .agg #[.int .i64 kind, .int .i64 nn, .int .i64 most, .int .u64 (hi val), .int .u64 (lo val), .slice sA sn sc]] w (WriteRet B la w) := by
  have HXr : Hid (ReadsL (w.alloc (.cells #[.int .i64 kind, .int .i64 nn, .int .i64 most, .int .u64 (hi val), .int .u64 (lo val), .slice sA sn sc] 28)).drew sD sA xs) := Lib.hid (ReadsL.drew (hxr.kept (w' := (w.alloc (.cells #[.int .i64 kind, .int .i64 nn, .int .i64 most, .int .u64 (hi val), .int .u64 (lo val), .slice sA sn sc] 28))) (row := none) (grown_alloc w (.cells #[.int .i64 kind, .int .i64 nn, .int .i64 most, .int .u64 (hi val), .int .u64 (lo val), .slice sA sn sc] 28) none) (by simp)))
  have HXL := Lib.hid hxl
  have HXD2 : Hid (xs ≠ [] → sD < (w.alloc (.cells #[.int .i64 kind, .int .i64 nn, .int .i64 most, .int .u64 (hi val), .int .u64 (lo val), .slice sA sn sc] 28)).drew.heap.size) := Lib.hid (fun h => by have := hxD h; simp; omega)
  have HVD : Hid (xs ≠ [] → v.ownBlock ≠ some sD) := Lib.hid (fun h e => by have := (World.ownsRow.lt hO _ e).1; have := hxD h; omega)
  have hmin : min (sn : Int) 40 = (mm : Int) := by omega
  have hmc : (mm : Int) ≤ (sc : Int) := by omega
  have hm40 : mm ≤ 40 := by omega
  have hna : na ≤ 100000 := by omega
  have HAr : Hid (ReadsL (w.alloc (.cells #[.int .i64 kind, .int .i64 nn, .int .i64 most, .int .u64 (hi val), .int .u64 (lo val), .slice sA sn sc] 28)).drew Da Aa la) := Lib.hid (ReadsL.drew (hr.kept (w' := (w.alloc (.cells #[.int .i64 kind, .int .i64 nn, .int .i64 most, .int .u64 (hi val), .int .u64 (lo val), .slice sA sn sc] 28))) (row := none) (grown_alloc w (.cells #[.int .i64 kind, .int .i64 nn, .int .i64 most, .int .u64 (hi val), .int .u64 (lo val), .slice sA sn sc] 28) none) (by simp)))
  have HOr : Hid (Own (w.alloc (.cells #[.int .i64 kind, .int .i64 nn, .int .i64 most, .int .u64 (hi val), .int .u64 (lo val), .slice sA sn sc] 28)).drew B v la) := Lib.hid (hO.alloc _).drew
  have HL := Lib.hid hl
  have HVL : Hid (some w.heap.size ≠ v.ownBlock) := Lib.hid (fun e => by have := (World.ownsRow.lt hO _ e.symm).2; omega)
  have b0 : Below B w (w.alloc (.cells #[.int .i64 kind, .int .i64 nn, .int .i64 most, .int .u64 (hi val), .int .u64 (lo val), .slice sA sn sc] 28)).drew := ((Below.refl B w).alloc hB _).drew
  have cv0 : (convert 23 9 (.slice sA mm sc)).run Try.prog (w.alloc (.cells #[.int .i64 kind, .int .i64 nn, .int .i64 most, .int .u64 (hi val), .int .u64 (lo val), .slice sA sn sc] 28)).drew = .ok (.string (strL xs)) (w.alloc (.cells #[.int .i64 kind, .int .i64 nn, .int .i64 most, .int .u64 (hi val), .int .u64 (lo val), .slice sA sn sc] 28)).drew := conv_list sc HXr.out HXL.out
  clear hr hO hl hmm
  go_enter Try.func8, Try.ntmps8
  go_wp2
  go_region_held3 (fun w' => (convert 23 9 (.slice sA mm sc)).run Try.prog w' = .ok (.string (strL xs)) w') (go_keep) (first
    | (go_at_call 34; (refine (atext_any Aa Da na ca la _ xs hxs HAr.out HL.out (by omega) (by have := HXL.out; omega)).mono ?_; rintro en w1 ⟨A1, n1, cap1, g1, rfl, hn1, hr1, hg1, hq1, hb1⟩; have k1 : ∀ o, w1.cell? ⟨w.heap.size, o, none⟩ = (w.alloc (.cells #[.int .i64 kind, .int .i64 nn, .int .i64 most, .int .u64 (hi val), .int .u64 (lo val), .slice sA sn sc] 28)).drew.cell? ⟨w.heap.size, o, none⟩ := (fun o => hb1.cell (p := ⟨w.heap.size, o, none⟩) (by simp)); have HO1 := Lib.hid (HOr.out.below hb1); have HBB : B ≤ w1.heap.size := (by have := hb1.size; simp at this; omega); have cv1 : (convert 23 9 (.slice sA mm sc)).run Try.prog w1 = .ok (.string (strL xs)) w1 := conv_list sc (reads_past HXr.out hb1 HXD2.out) HXL.out; skip))
    | (go_at_call 35; (refine (ratext_any v la B _ xs hxs HO1.out HBB (by omega) (by have := HXL.out; omega)).mono ?_; rintro en w2 ⟨v2, rfl, hO2, hg2, ha2⟩; have k2 : ∀ o, w2.cell? ⟨w.heap.size, o, none⟩ = w1.cell? ⟨w.heap.size, o, none⟩ := (fun o => cell_kept hg2 (by have := hb1.size; simp at this; omega) HVL.out); have cv2 : (convert 23 9 (.slice sA mm sc)).run Try.prog w2 = .ok (.string (strL xs)) w2 := conv_list sc (reads_own (reads_past HXr.out hb1 HXD2.out) hg2 HVD.out) HXL.out; skip)))
  go_wp2
  go_ret2
  exact write_end (x := (encU xs.length 2 ++ xs)) b0 (by simp; omega) HOr.out (by simpa using hn1) (by simpa using hr1) hg1 hq1 hb1 (by simpa using hO2) hg2 ha2 hs ((encU_small _ 2).append hxs) (by rw [List.length_append, encU_len, hxl]; omega)
set_option maxRecDepth 100000 in
set_option maxHeartbeats 2000000 in
theorem write_5 (mm : Nat) (hmm : mm = min sn 40) (hsc : sn ≤ sc) (hk0 : (kind.tmod 6 == 0) = false) (hk1 : (kind.tmod 6 == 1) = false) (hk2 : (kind.tmod 6 == 2) = false) (hk3 : (kind.tmod 6 == 3) = false) (hk4 : (kind.tmod 6 == 4) = false) (hval : val < 2 ^ 128) (hO : Own w B v la) (hr : ReadsL w Da Aa la) (hl : la.length = na) (hs : Small la) (hla : la.length ≤ 100000) (hB : B ≤ w.heap.size) :
    Calls Try.prog 8 #[.slice Aa na ca, v, .agg #[.int .i64 kind, .int .i64 nn, .int .i64 most, .int .u64 (hi val), .int .u64 (lo val), .slice sA sn sc]] w (WriteRet B la w) := by
  have HVAL := Lib.hid hval
  have hmin : min (sn : Int) 40 = (mm : Int) := by omega
  have hmc : (mm : Int) ≤ (sc : Int) := by omega
  have hm40 : mm ≤ 40 := by omega
  have hna : na ≤ 100000 := by omega
  have HAr : Hid (ReadsL (w.alloc (.cells #[.int .i64 kind, .int .i64 nn, .int .i64 most, .int .u64 (hi val), .int .u64 (lo val), .slice sA sn sc] 28)).drew Da Aa la) := Lib.hid (ReadsL.drew (hr.kept (w' := (w.alloc (.cells #[.int .i64 kind, .int .i64 nn, .int .i64 most, .int .u64 (hi val), .int .u64 (lo val), .slice sA sn sc] 28))) (row := none) (grown_alloc w (.cells #[.int .i64 kind, .int .i64 nn, .int .i64 most, .int .u64 (hi val), .int .u64 (lo val), .slice sA sn sc] 28) none) (by simp)))
  have HOr : Hid (Own (w.alloc (.cells #[.int .i64 kind, .int .i64 nn, .int .i64 most, .int .u64 (hi val), .int .u64 (lo val), .slice sA sn sc] 28)).drew B v la) := Lib.hid (hO.alloc _).drew
  have HL := Lib.hid hl
  have HVL : Hid (some w.heap.size ≠ v.ownBlock) := Lib.hid (fun e => by have := (World.ownsRow.lt hO _ e.symm).2; omega)
  have b0 : Below B w (w.alloc (.cells #[.int .i64 kind, .int .i64 nn, .int .i64 most, .int .u64 (hi val), .int .u64 (lo val), .slice sA sn sc] 28)).drew := ((Below.refl B w).alloc hB _).drew
  clear hr hO hl hmm
  go_enter Try.func8, Try.ntmps8
  go_wp2
  go_region_held3 (fun w' => w'.cell? ⟨w.heap.size, 3, none⟩ = some (.int .u64 (hi val)) ∧ w'.cell? ⟨w.heap.size, 4, none⟩ = some (.int .u64 (lo val))) (go_keep) (first
    | (go_at_call 28; (refine (avalue_any Aa Da na ca la _ val HVAL.out HAr.out HL.out (by omega)).mono ?_; rintro en w1 ⟨A1, n1, cap1, g1, rfl, hn1, hr1, hg1, hq1, hb1⟩; have k1 : ∀ o, w1.cell? ⟨w.heap.size, o, none⟩ = (w.alloc (.cells #[.int .i64 kind, .int .i64 nn, .int .i64 most, .int .u64 (hi val), .int .u64 (lo val), .slice sA sn sc] 28)).drew.cell? ⟨w.heap.size, o, none⟩ := (fun o => hb1.cell (p := ⟨w.heap.size, o, none⟩) (by simp)); have HO1 := Lib.hid (HOr.out.below hb1); have HBB : B ≤ w1.heap.size := (by have := hb1.size; simp at this; omega); skip))
    | (go_at_call 36; (refine (ravalue_any v la B _ val HVAL.out HO1.out HBB (by omega)).mono ?_; rintro en w2 ⟨v2, rfl, hO2, hg2, ha2⟩; have k2 : ∀ o, w2.cell? ⟨w.heap.size, o, none⟩ = w1.cell? ⟨w.heap.size, o, none⟩ := (fun o => cell_kept hg2 (by have := hb1.size; simp at this; omega) HVL.out); skip)))
  go_wp2
  go_ret2
  exact write_end (x := (encU (nb val) 1 ++ bl val)) b0 (by simp; omega) HOr.out (by simpa using hn1) (by simpa using hr1) hg1 hq1 hb1 (by simpa using hO2) hg2 ha2 hs ((encU_small _ 1).append (bl_small val)) (by rw [List.length_append, encU_len, bl_len]; have := nb_le val hval; omega)
end
end Go.Proofs.Ythfimcbjbkbcjaa
