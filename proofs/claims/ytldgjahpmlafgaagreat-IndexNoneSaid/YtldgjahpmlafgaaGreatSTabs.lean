/- Making a schema out of choices: tables. -/
import Derived.Test.YtldgjahpmlafgaaGreatSTabP
namespace Go.Proofs.YtldgjahpmlafgaaGreat
open Go.RowKit
theorem nextz3 {K D p : Nat} {l : List Nat} {w : World} (h : CoAt K D l p w) : Calls Tryz.prog 30 #[.pointer (some ⟨K, 0, none⟩), .int .i64 3] w (ChoseZ K D l 3 w) := next_z 3 (by decide) (by decide) h

theorem info_key : (Tryz.prog.info? 137).map (fun i => (i.zero, i.size, i.bytes)) = some (some (.agg #[.string ⟨#[]⟩, .int .i64 0, .int .i64 0]), 3, 32) := by kernel_rfl
set_option maxRecDepth 100000 in
set_option maxHeartbeats 8000000 in
theorem tables_any {K D p : Nat} {l : List Nat} {w : World} (h : CoAt K D l p w) : Calls Tryz.prog 70 #[.pointer (some ⟨K, 0, none⟩)] w (RetTables K D l w) := by
  obtain ⟨i0, hi0, hz0, hy1, hy2⟩ := info_parts info_key
  have HC0 := Lib.hid h
  have HDl := Lib.hid h.dlt
  have hKw := h.lt
  have HG0 : Hid (w.grownBy w (some K)) := Lib.hid (World.grownBy.refl _ _)
  clear h
  go_enter Tryz.func70, Tryz.ntmps70
  obtain ⟨wB1, hwwB1⟩ : ∃ x, x = ((w.alloc (.cells #[.string ⟨#[97]⟩, .int .i64 4, .int .i64 1] 137)).alloc (.cells #[.int .i64 1, .int .i64 2, .int .i64 4] 3)) := ⟨_, rfl⟩
  have gwB1 : w.grownBy wB1 none := by
    rw [hwwB1]
    exact ((grown_alloc _ _ _).trans (grown_alloc _ _ _))
  have zwB1 : wB1.heap.size = w.heap.size + 2 := by rw [hwwB1]; simp
  have hK1 := HC0.out.lt
  have x01 : Bx K w.heap.size [.string ⟨#[97]⟩, .int .i64 4, .int .i64 1] wB1 := by
    rw [hwwB1]
    exact ((Bx.new hK1 [.string ⟨#[97]⟩, .int .i64 4, .int .i64 1] 137).alloc (.cells #[.int .i64 1, .int .i64 2, .int .i64 4] 3))
  have x11 : Bx K (w.heap.size + 1) [.int .i64 1, .int .i64 2, .int .i64 4] wB1 := by
    rw [hwwB1]
    have := (Bx.new (K := K) (W := (w.alloc (.cells #[.string ⟨#[97]⟩, .int .i64 4, .int .i64 1] 137))) (by simp; omega) [.int .i64 1, .int .i64 2, .int .i64 4] 3)
    simpa only [World.size_alloc, Nat.add_assoc] using this
  have cwB1 := HC0.out.kept gwB1 (by simp) (by simp)
  have HN1 := Lib.hid (next2 cwB1)
  have HX01 := Lib.hid x01
  have HX11 := Lib.hid x11
  have HWwB1 := Lib.hid hwwB1
  have HGwB1 := Lib.hid (World.grownBy.trans HG0.out (grown_below gwB1))
  have HgW1 : Hid (w.grownBy wB1 (some K)) := Lib.hid (grown_below gwB1)
  have HZwB1 := Lib.hid zwB1
  clear x01 x11 cwB1 hwwB1 gwB1 zwB1
  go_wp2_with fail
  rw [← HWwB1.out]
  refine HN1.out.mono ?_
  rintro e wB1b ⟨q, hq, rfl, hgwB1b, pwB1b, cwB1b⟩
  have aq : (q : Int) < 2 := by omega
  have bq : 0 ≤ (q : Int) := by omega
  have HX01 := Lib.hid (HX01.out.chose hgwB1b)
  have HX11 := Lib.hid (HX11.out.chose hgwB1b)
  have HGwB1b := Lib.hid (World.grownBy.trans HGwB1.out hgwB1b)
  have HgW1 := Lib.hid (World.grownBy.trans HgW1.out hgwB1b)
  have zwB1b : wB1.heap.size ≤ wB1b.heap.size := hgwB1b.size
  have Hvq := Lib.hid hq
  have HN1b := Lib.hid (next5 cwB1b)
  clear hgwB1b cwB1b
  go_wp2_with fail
  refine HN1b.out.mono ?_
  rintro e wC1 ⟨s1, hs1, rfl, hgwC1, pwC1, cwC1⟩
  have as1 : (s1 : Int) < 5 := by omega
  have bs1 : 0 ≤ (s1 : Int) := by omega
  have HX01 := Lib.hid (HX01.out.chose hgwC1)
  have HX11 := Lib.hid (HX11.out.chose hgwC1)
  have HGwC1 := Lib.hid (World.grownBy.trans HGwB1b.out hgwC1)
  have HgW1 := Lib.hid (World.grownBy.trans HgW1.out hgwC1)
  have zwC1 : wB1b.heap.size ≤ wC1.heap.size := hgwC1.size
  have Hvs1 := Lib.hid hs1
  have zwC1 : wB1.heap.size ≤ wC1.heap.size := by omega
  obtain ⟨wD1, hwwD1⟩ : ∃ x, x = wC1.alloc (.cells #[.int .i64 1, .string ⟨#[112, 111, 114, 116, 115]⟩, .slice (some ⟨w.heap.size, 0, none⟩) 1 1, .slice (some ⟨w.heap.size + 1, 0, none⟩) 3 3, .int .i64 (1 + (q : Int)), .slice none 0 0, .int .i64 (2 + (s1 : Int)), .string ⟨#[]⟩] 59) := ⟨_, rfl⟩
  have hK1c := cwC1.lt
  have xwD1 : Bx K wC1.heap.size [.int .i64 1, .string ⟨#[112, 111, 114, 116, 115]⟩, .slice (some ⟨w.heap.size, 0, none⟩) 1 1, .slice (some ⟨w.heap.size + 1, 0, none⟩) 3 3, .int .i64 (1 + (q : Int)), .slice none 0 0, .int .i64 (2 + (s1 : Int)), .string ⟨#[]⟩] wD1 := by rw [hwwD1]; exact Bx.new hK1c [.int .i64 1, .string ⟨#[112, 111, 114, 116, 115]⟩, .slice (some ⟨w.heap.size, 0, none⟩) 1 1, .slice (some ⟨w.heap.size + 1, 0, none⟩) 3 3, .int .i64 (1 + (q : Int)), .slice none 0 0, .int .i64 (2 + (s1 : Int)), .string ⟨#[]⟩] _
  have gwD1 : wC1.grownBy wD1 none := by rw [hwwD1]; exact grown_alloc _ _ _
  have cwD1 := cwC1.kept gwD1 (by simp) (by simp)
  have swD1 : SameB w.heap.size wC1.heap.size wC1 wD1 := by rw [hwwD1]; exact .of_alloc (Nat.le_refl _) _
  have hgs1 := HG0.out.size
  have hzb1 := HZwB1.out
  have rk1 : RowH 3 KeyV w.heap.size wC1.heap.size wC1 (.slice (some ⟨w.heap.size, 0, none⟩) 1 1) [⟨[97], 4, 1⟩] := keys_lit [⟨[97], 4, 1⟩] HX01.out (by omega) (by omega) rfl (by decide) (by
    intro x hx
    simp only [List.mem_cons, List.not_mem_nil, or_false] at hx
    rcases hx with rfl
    · exact ⟨txtT (l := [97]) (by decide) (by decide), i64_of (x := 4) (by decide), i64_of (x := 1) (by decide)⟩)
  have ra1 : RowH 1 I64V w.heap.size wC1.heap.size wC1 (.slice (some ⟨w.heap.size + 1, 0, none⟩) 3 3) [1, 2, 4] := ints_lit [1, 2, 4] HX11.out (by omega) (by omega) rfl (by decide) (by
    intro x hx
    simp only [List.mem_cons, List.not_mem_nil, or_false] at hx
    rcases hx with rfl | rfl | rfl <;> exact i64_of (by decide))
  have rr1 : RowH 2 ValV w.heap.size wC1.heap.size wC1 (.slice none 0 0) [] := rowH_nil
  have HgD1 := Lib.hid gwD1
  have HWwD1 := Lib.hid hwwD1
  have HXwD1 := Lib.hid xwD1
  have HSwD1 := Lib.hid swD1
  have HRk1 := Lib.hid rk1
  have HRa1 := Lib.hid ra1
  have HRr1 := Lib.hid rr1
  have HGwD1 := Lib.hid (World.grownBy.trans HGwC1.out (grown_below gwD1))
  have HgW1 := Lib.hid (World.grownBy.trans HgW1.out (grown_below gwD1))
  have HCwD1 := Lib.hid cwD1
  have HaT1 : Hid (w.heap.size ≤ wC1.heap.size) := Lib.hid (by omega)
  have HWT1 : Hid (w.heap.size ≤ wC1.heap.size) := Lib.hid (by omega)
  clear hwwD1 xwD1 swD1 rk1 ra1 rr1 gwD1 cwD1 cwC1 hgwC1 hgs1 hzb1
  have HT1 : Hid (TabC w.heap.size K wC1.heap.size (tab1D q s1 []) (.slice (some ⟨w.heap.size, 0, none⟩) 1 1) (.slice (some ⟨w.heap.size + 1, 0, none⟩) 3 3) (.slice none 0 0) wD1) := Lib.hid ⟨HaT1.out, HXwD1.out, (HRk1.out.kept HSwD1.out).widen (Nat.le_refl _) HSwD1.out.size, (HRa1.out.kept HSwD1.out).widen (Nat.le_refl _) HSwD1.out.size, rowH_nil⟩
  obtain ⟨wB2, hwwB2⟩ : ∃ x, x = ((wD1.alloc (.cells #[.string ⟨#[100]⟩, .int .i64 7, .int .i64 2] 137)).alloc (.cells #[.int .i64 1, .int .i64 2, .int .i64 3, .int .i64 4] 3)) := ⟨_, rfl⟩
  have gwB2 : wD1.grownBy wB2 none := by
    rw [hwwB2]
    exact ((grown_alloc _ _ _).trans (grown_alloc _ _ _))
  have zwB2 : wB2.heap.size = wD1.heap.size + 2 := by rw [hwwB2]; simp
  have hK2 := HCwD1.out.lt
  have x02 : Bx K wD1.heap.size [.string ⟨#[100]⟩, .int .i64 7, .int .i64 2] wB2 := by
    rw [hwwB2]
    exact ((Bx.new hK2 [.string ⟨#[100]⟩, .int .i64 7, .int .i64 2] 137).alloc (.cells #[.int .i64 1, .int .i64 2, .int .i64 3, .int .i64 4] 3))
  have x12 : Bx K (wD1.heap.size + 1) [.int .i64 1, .int .i64 2, .int .i64 3, .int .i64 4] wB2 := by
    rw [hwwB2]
    have := (Bx.new (K := K) (W := (wD1.alloc (.cells #[.string ⟨#[100]⟩, .int .i64 7, .int .i64 2] 137))) (by simp; omega) [.int .i64 1, .int .i64 2, .int .i64 3, .int .i64 4] 3)
    simpa only [World.size_alloc, Nat.add_assoc] using this
  have zwD1 : wD1.heap.size = wC1.heap.size + 1 := by rw [HWwD1.out]; simp
  rw [zwD1] at x02 x12
  have cwB2 := HCwD1.out.kept gwB2 (by simp) (by simp)
  have HN2 := Lib.hid (next6 cwB2)
  have HX02 := Lib.hid x02
  have HX12 := Lib.hid x12
  have HWwB2 := Lib.hid hwwB2
  have HGwB2 := Lib.hid (World.grownBy.trans HGwD1.out (grown_below gwB2))
  have HgW2 : Hid (wD1.grownBy wB2 (some K)) := Lib.hid (grown_below gwB2)
  have HZwB2 := Lib.hid zwB2
  clear x02 x12 cwB2 hwwB2 gwB2 zwB2
  go_wp2_with fail
  rw [← HWwD1.out, ← HWwB2.out]
  refine HN2.out.mono ?_
  rintro e wC2 ⟨s2, hs2, rfl, hgwC2, pwC2, cwC2⟩
  have as2 : (s2 : Int) < 6 := by omega
  have bs2 : 0 ≤ (s2 : Int) := by omega
  have HX02 := Lib.hid (HX02.out.chose hgwC2)
  have HX12 := Lib.hid (HX12.out.chose hgwC2)
  have HGwC2 := Lib.hid (World.grownBy.trans HGwB2.out hgwC2)
  have HgW2 := Lib.hid (World.grownBy.trans HgW2.out hgwC2)
  have zwC2 : wB2.heap.size ≤ wC2.heap.size := hgwC2.size
  have Hvs2 := Lib.hid hs2
  obtain ⟨wD2, hwwD2⟩ : ∃ x, x = wC2.alloc (.cells #[.int .i64 2, .string ⟨#[114, 111, 117, 116, 101, 115]⟩, .slice (some ⟨wC1.heap.size + 1, 0, none⟩) 1 1, .slice (some ⟨wC1.heap.size + 1 + 1, 0, none⟩) 4 4, .int .i64 2, .slice none 0 0, .int .i64 (3 + (s2 : Int)), .string ⟨#[]⟩] 59) := ⟨_, rfl⟩
  have hK2c := cwC2.lt
  have xwD2 : Bx K wC2.heap.size [.int .i64 2, .string ⟨#[114, 111, 117, 116, 101, 115]⟩, .slice (some ⟨wC1.heap.size + 1, 0, none⟩) 1 1, .slice (some ⟨wC1.heap.size + 1 + 1, 0, none⟩) 4 4, .int .i64 2, .slice none 0 0, .int .i64 (3 + (s2 : Int)), .string ⟨#[]⟩] wD2 := by rw [hwwD2]; exact Bx.new hK2c [.int .i64 2, .string ⟨#[114, 111, 117, 116, 101, 115]⟩, .slice (some ⟨wC1.heap.size + 1, 0, none⟩) 1 1, .slice (some ⟨wC1.heap.size + 1 + 1, 0, none⟩) 4 4, .int .i64 2, .slice none 0 0, .int .i64 (3 + (s2 : Int)), .string ⟨#[]⟩] _
  have gwD2 : wC2.grownBy wD2 none := by rw [hwwD2]; exact grown_alloc _ _ _
  have cwD2 := cwC2.kept gwD2 (by simp) (by simp)
  have swD2 : SameB w.heap.size wC2.heap.size wC2 wD2 := by rw [hwwD2]; exact .of_alloc (Nat.le_refl _) _
  have hgs2 := HGwD1.out.size
  have hzb2 := HZwB2.out
  have rk2 : RowH 3 KeyV w.heap.size wC2.heap.size wC2 (.slice (some ⟨wC1.heap.size + 1, 0, none⟩) 1 1) [⟨[100], 7, 2⟩] := keys_lit [⟨[100], 7, 2⟩] HX02.out (by omega) (by omega) rfl (by decide) (by
    intro x hx
    simp only [List.mem_cons, List.not_mem_nil, or_false] at hx
    rcases hx with rfl
    · exact ⟨txtT (l := [100]) (by decide) (by decide), i64_of (x := 7) (by decide), i64_of (x := 2) (by decide)⟩)
  have ra2 : RowH 1 I64V w.heap.size wC2.heap.size wC2 (.slice (some ⟨wC1.heap.size + 1 + 1, 0, none⟩) 4 4) [1, 2, 3, 4] := ints_lit [1, 2, 3, 4] HX12.out (by omega) (by omega) rfl (by decide) (by
    intro x hx
    simp only [List.mem_cons, List.not_mem_nil, or_false] at hx
    rcases hx with rfl | rfl | rfl | rfl <;> exact i64_of (by decide))
  have rr2 : RowH 2 ValV w.heap.size wC2.heap.size wC2 (.slice none 0 0) [] := rowH_nil
  have HgD2 := Lib.hid gwD2
  have HWwD2 := Lib.hid hwwD2
  have HXwD2 := Lib.hid xwD2
  have HSwD2 := Lib.hid swD2
  have HRk2 := Lib.hid rk2
  have HRa2 := Lib.hid ra2
  have HRr2 := Lib.hid rr2
  have HGwD2 := Lib.hid (World.grownBy.trans HGwC2.out (grown_below gwD2))
  have HgW2 := Lib.hid (World.grownBy.trans HgW2.out (grown_below gwD2))
  have HCwD2 := Lib.hid cwD2
  have HaT2 : Hid (w.heap.size ≤ wC2.heap.size) := Lib.hid (by omega)
  have HWT2 : Hid (wD1.heap.size ≤ wC2.heap.size) := Lib.hid (by omega)
  have HBo2 := Lib.hid (cobool_z cwD2)
  clear hwwD2 xwD2 swD2 rk2 ra2 rr2 gwD2 cwD2 cwC2 hgwC2 hgs2 hzb2
  go_wp2_with fail
  rw [← HWwD2.out]
  refine HBo2.out.mono ?_
  rintro e wE2 ⟨bb, hbz2, rfl, hgwE2, pwE2, cwE2⟩
  have HBz2 := Lib.hid hbz2
  clear hbz2
  have HXwE2 := Lib.hid (HXwD2.out.chose hgwE2)
  have HX02 := Lib.hid ((HX02.out.kept HgD2.out (by simp)).chose hgwE2)
  have HgW2 := Lib.hid (World.grownBy.trans HgW2.out hgwE2)
  have HS2 := Lib.hid (HSwD2.out.trans (.of_grown hgwE2 (Nat.le_of_lt HXwD2.out.lt) (fun k e => by injection e with e; omega)))
  have HCE2 := Lib.hid cwE2
  clear hgwE2 cwE2 HBo2
  go_upto_if 28 with (fail)
  go_cut [] from 29 to 34 (fun wx => TabS K D wC2.heap.size w.heap.size l wD1 (fun b => tab2D b s2 []) (.slice (some ⟨wC1.heap.size + 1 + 1, 0, none⟩) 4 4) (.slice none 0 0) wx)
  case first =>
    cases bb
    · go_wp2_with fail
      go_meet
      exact tab_none HaT2.out HS2.out HXwE2.out HRk2.out HRa2.out HRr2.out HCE2.out HgW2.out
    · have m2 : wE2.cell? ⟨wC2.heap.size, 2, none⟩ = some (.slice (some ⟨wC1.heap.size + 1, 0, none⟩) 1 1) := HXwE2.out.c 2 (by simp)
      have f2 := HXwE2.out.f 2
      go_wp2_with (at_builtin; (refine wpList_append_grows _ rfl (.tmp 30) (.tmp 32) 56 rfl 137 i0 _ 3 32 Tryz.underlying56 hi0 hz0 hy1 hy2 rfl (by decide) (some ⟨wC1.heap.size + 1, 0, none⟩) 1 1 [.string ⟨#[100]⟩, .int .i64 7, .int .i64 2] rfl (by simp) rfl (Bx.holds (HX02.out.alloc _)) ⟨wE2.heap.size, 0, none⟩ 1 1 [.string ⟨#[109]⟩, .int .i64 3, .int .i64 1] rfl rfl (World.news_of_block (cs := #[.string ⟨#[109]⟩, .int .i64 3, .int .i64 1]) (t := 137) (fr := (0, 0)) (heap_alloc_new wE2 _)) (by intro u hu; simp at hu; rcases hu with rfl | rfl | rfl <;> rfl) (by decide) (by decide) (by decide) ?_; intro v6 w6 hO6 hg6; obtain ⟨A6, cap6, rfl⟩ := own_shapeH hO6; have HX6 := Lib.hid ((HXwE2.out.alloc _).kept hg6 (by simp)); have o6 := HX6.out.c 2 (by simp); have f6 := HX6.out.f 2; have HO6 := Lib.hid hO6; have HG6 := Lib.hid hg6; clear hO6 hg6))
      go_meet
      exact tab_some (d := fun b => tab2D b s2 []) (fun e => by have := HBz2.out e; cases this) HaT2.out hKw (fun e => Nat.lt_of_lt_of_le (HDl.out e) HaT2.out) HWT2.out HS2.out HXwE2.out HRa2.out HRr2.out HCE2.out HgW2.out HO6.out HG6.out rfl rfl (by
        intro x hx
        simp only [tab2D, if_true, List.mem_cons, List.not_mem_nil, or_false] at hx
        rcases hx with rfl | rfl
        · exact ⟨txtT (l := [100]) (by decide) (by decide), i64_of (x := 7) (by decide), i64_of (x := 2) (by decide)⟩
        · exact ⟨txtT (l := [109]) (by decide) (by decide), i64_of (x := 3) (by decide), i64_of (x := 1) (by decide)⟩)
  case rest =>
    obtain ⟨b2, vk2, hbn2, hT2, ⟨pF2, cF2⟩, gF2⟩ := hcut
    have HBn2 := Lib.hid hbn2
    clear hbn2
    obtain ⟨wF2, hwF2⟩ : ∃ x, x = wc := ⟨_, rfl⟩
    subst hwF2
    have HT1 := Lib.hid (HT1.out.chose gF2 hKw)
    have HT2 := Lib.hid hT2
    have HCF2 := Lib.hid cF2
    have HGF2 := Lib.hid (World.grownBy.trans HGwD1.out gF2)
    clear hT2 cF2 gF2
    obtain ⟨wB3, hwwB3⟩ : ∃ x, x = ((wF2.alloc (.cells #[.string ⟨#[101]⟩, .int .i64 6, .int .i64 3, .string ⟨#[97]⟩, .int .i64 4, .int .i64 3] 137)).alloc (.cells #[.int .i64 1, .int .i64 2, .int .i64 3, .int .i64 5, .int .i64 6] 3)) := ⟨_, rfl⟩
    have gwB3 : wF2.grownBy wB3 none := by
      rw [hwwB3]
      exact ((grown_alloc _ _ _).trans (grown_alloc _ _ _))
    have zwB3 : wB3.heap.size = wF2.heap.size + 2 := by rw [hwwB3]; simp
    have hK3 := HCF2.out.lt
    have x03 : Bx K wF2.heap.size [.string ⟨#[101]⟩, .int .i64 6, .int .i64 3, .string ⟨#[97]⟩, .int .i64 4, .int .i64 3] wB3 := by
      rw [hwwB3]
      exact ((Bx.new hK3 [.string ⟨#[101]⟩, .int .i64 6, .int .i64 3, .string ⟨#[97]⟩, .int .i64 4, .int .i64 3] 137).alloc (.cells #[.int .i64 1, .int .i64 2, .int .i64 3, .int .i64 5, .int .i64 6] 3))
    have x13 : Bx K (wF2.heap.size + 1) [.int .i64 1, .int .i64 2, .int .i64 3, .int .i64 5, .int .i64 6] wB3 := by
      rw [hwwB3]
      have := (Bx.new (K := K) (W := (wF2.alloc (.cells #[.string ⟨#[101]⟩, .int .i64 6, .int .i64 3, .string ⟨#[97]⟩, .int .i64 4, .int .i64 3] 137))) (by simp; omega) [.int .i64 1, .int .i64 2, .int .i64 3, .int .i64 5, .int .i64 6] 3)
      simpa only [World.size_alloc, Nat.add_assoc] using this
    have cwB3 := HCF2.out.kept gwB3 (by simp) (by simp)
    have HN3 := Lib.hid (next6 cwB3)
    have HX03 := Lib.hid x03
    have HX13 := Lib.hid x13
    have HWwB3 := Lib.hid hwwB3
    have HGwB3 := Lib.hid (World.grownBy.trans HGF2.out (grown_below gwB3))
    have HgW3 : Hid (wF2.grownBy wB3 (some K)) := Lib.hid (grown_below gwB3)
    have HZwB3 := Lib.hid zwB3
    clear x03 x13 cwB3 hwwB3 gwB3 zwB3
    go_wp2_with fail
    rw [← HWwB3.out]
    refine HN3.out.mono ?_
    rintro e wC3 ⟨s3, hs3, rfl, hgwC3, pwC3, cwC3⟩
    have as3 : (s3 : Int) < 6 := by omega
    have bs3 : 0 ≤ (s3 : Int) := by omega
    have HX03 := Lib.hid (HX03.out.chose hgwC3)
    have HX13 := Lib.hid (HX13.out.chose hgwC3)
    have HGwC3 := Lib.hid (World.grownBy.trans HGwB3.out hgwC3)
    have HgW3 := Lib.hid (World.grownBy.trans HgW3.out hgwC3)
    have zwC3 : wB3.heap.size ≤ wC3.heap.size := hgwC3.size
    have Hvs3 := Lib.hid hs3
    obtain ⟨wD3, hwwD3⟩ : ∃ x, x = wC3.alloc (.cells #[.int .i64 3, .string ⟨#[97, 99, 108]⟩, .slice (some ⟨wF2.heap.size, 0, none⟩) 2 2, .slice (some ⟨wF2.heap.size + 1, 0, none⟩) 5 5, .int .i64 1, .slice none 0 0, .int .i64 (4 + (s3 : Int)), .string ⟨#[]⟩] 59) := ⟨_, rfl⟩
    have hK3c := cwC3.lt
    have xwD3 : Bx K wC3.heap.size [.int .i64 3, .string ⟨#[97, 99, 108]⟩, .slice (some ⟨wF2.heap.size, 0, none⟩) 2 2, .slice (some ⟨wF2.heap.size + 1, 0, none⟩) 5 5, .int .i64 1, .slice none 0 0, .int .i64 (4 + (s3 : Int)), .string ⟨#[]⟩] wD3 := by rw [hwwD3]; exact Bx.new hK3c [.int .i64 3, .string ⟨#[97, 99, 108]⟩, .slice (some ⟨wF2.heap.size, 0, none⟩) 2 2, .slice (some ⟨wF2.heap.size + 1, 0, none⟩) 5 5, .int .i64 1, .slice none 0 0, .int .i64 (4 + (s3 : Int)), .string ⟨#[]⟩] _
    have gwD3 : wC3.grownBy wD3 none := by rw [hwwD3]; exact grown_alloc _ _ _
    have cwD3 := cwC3.kept gwD3 (by simp) (by simp)
    have swD3 : SameB w.heap.size wC3.heap.size wC3 wD3 := by rw [hwwD3]; exact .of_alloc (Nat.le_refl _) _
    have hgs3 := HGF2.out.size
    have hzb3 := HZwB3.out
    have rk3 : RowH 3 KeyV w.heap.size wC3.heap.size wC3 (.slice (some ⟨wF2.heap.size, 0, none⟩) 2 2) [⟨[101], 6, 3⟩, ⟨[97], 4, 3⟩] := keys_lit [⟨[101], 6, 3⟩, ⟨[97], 4, 3⟩] HX03.out (by omega) (by omega) rfl (by decide) (by
      intro x hx
      simp only [List.mem_cons, List.not_mem_nil, or_false] at hx
      rcases hx with rfl | rfl
      · exact ⟨txtT (l := [101]) (by decide) (by decide), i64_of (x := 6) (by decide), i64_of (x := 3) (by decide)⟩
      · exact ⟨txtT (l := [97]) (by decide) (by decide), i64_of (x := 4) (by decide), i64_of (x := 3) (by decide)⟩)
    have ra3 : RowH 1 I64V w.heap.size wC3.heap.size wC3 (.slice (some ⟨wF2.heap.size + 1, 0, none⟩) 5 5) [1, 2, 3, 5, 6] := ints_lit [1, 2, 3, 5, 6] HX13.out (by omega) (by omega) rfl (by decide) (by
      intro x hx
      simp only [List.mem_cons, List.not_mem_nil, or_false] at hx
      rcases hx with rfl | rfl | rfl | rfl | rfl <;> exact i64_of (by decide))
    have rr3 : RowH 2 ValV w.heap.size wC3.heap.size wC3 (.slice none 0 0) [] := rowH_nil
    have HgD3 := Lib.hid gwD3
    have HWwD3 := Lib.hid hwwD3
    have HXwD3 := Lib.hid xwD3
    have HSwD3 := Lib.hid swD3
    have HRk3 := Lib.hid rk3
    have HRa3 := Lib.hid ra3
    have HRr3 := Lib.hid rr3
    have HGwD3 := Lib.hid (World.grownBy.trans HGwC3.out (grown_below gwD3))
    have HgW3 := Lib.hid (World.grownBy.trans HgW3.out (grown_below gwD3))
    have HCwD3 := Lib.hid cwD3
    have HaT3 : Hid (w.heap.size ≤ wC3.heap.size) := Lib.hid (by omega)
    have HWT3 : Hid (wF2.heap.size ≤ wC3.heap.size) := Lib.hid (by omega)
    have HBo3 := Lib.hid (cobool_z cwD3)
    clear hwwD3 xwD3 swD3 rk3 ra3 rr3 gwD3 cwD3 cwC3 hgwC3 hgs3 hzb3
    go_wp2_with fail
    rw [← HWwD3.out]
    refine HBo3.out.mono ?_
    rintro e wE3 ⟨bb, hbz3, rfl, hgwE3, pwE3, cwE3⟩
    have HBz3 := Lib.hid hbz3
    clear hbz3
    have HXwE3 := Lib.hid (HXwD3.out.chose hgwE3)
    have HX03 := Lib.hid ((HX03.out.kept HgD3.out (by simp)).chose hgwE3)
    have HgW3 := Lib.hid (World.grownBy.trans HgW3.out hgwE3)
    have HS3 := Lib.hid (HSwD3.out.trans (.of_grown hgwE3 (Nat.le_of_lt HXwD3.out.lt) (fun k e => by injection e with e; omega)))
    have HCE3 := Lib.hid cwE3
    clear hgwE3 cwE3 HBo3
    go_upto_if 44 with (fail)
    go_cut [] from 45 to 50 (fun wx => TabS K D wC3.heap.size w.heap.size l wF2 (fun b => tab3D b s3 []) (.slice (some ⟨wF2.heap.size + 1, 0, none⟩) 5 5) (.slice none 0 0) wx)
    case first =>
      cases bb
      · go_wp2_with fail
        go_meet
        exact tab_none HaT3.out HS3.out HXwE3.out HRk3.out HRa3.out HRr3.out HCE3.out HgW3.out
      · have m2 : wE3.cell? ⟨wC3.heap.size, 2, none⟩ = some (.slice (some ⟨wF2.heap.size, 0, none⟩) 2 2) := HXwE3.out.c 2 (by simp)
        have f2 := HXwE3.out.f 2
        go_wp2_with (at_builtin; (refine wpList_append_grows _ rfl (.tmp 46) (.tmp 48) 56 rfl 137 i0 _ 3 32 Tryz.underlying56 hi0 hz0 hy1 hy2 rfl (by decide) (some ⟨wF2.heap.size, 0, none⟩) 2 2 [.string ⟨#[101]⟩, .int .i64 6, .int .i64 3, .string ⟨#[97]⟩, .int .i64 4, .int .i64 3] rfl (by simp) rfl (Bx.holds (HX03.out.alloc _)) ⟨wE3.heap.size, 0, none⟩ 1 1 [.string ⟨#[98]⟩, .int .i64 5, .int .i64 1] rfl rfl (World.news_of_block (cs := #[.string ⟨#[98]⟩, .int .i64 5, .int .i64 1]) (t := 137) (fr := (0, 0)) (heap_alloc_new wE3 _)) (by intro u hu; simp at hu; rcases hu with rfl | rfl | rfl <;> rfl) (by decide) (by decide) (by decide) ?_; intro v6 w6 hO6 hg6; obtain ⟨A6, cap6, rfl⟩ := own_shapeH hO6; have HX6 := Lib.hid ((HXwE3.out.alloc _).kept hg6 (by simp)); have o6 := HX6.out.c 2 (by simp); have f6 := HX6.out.f 2; have HO6 := Lib.hid hO6; have HG6 := Lib.hid hg6; clear hO6 hg6))
        go_meet
        exact tab_some (d := fun b => tab3D b s3 []) (fun e => by have := HBz3.out e; cases this) HaT3.out hKw (fun e => Nat.lt_of_lt_of_le (HDl.out e) HaT3.out) HWT3.out HS3.out HXwE3.out HRa3.out HRr3.out HCE3.out HgW3.out HO6.out HG6.out rfl rfl (by
          intro x hx
          simp only [tab3D, if_true, List.mem_cons, List.not_mem_nil, or_false] at hx
          rcases hx with rfl | rfl | rfl
          · exact ⟨txtT (l := [101]) (by decide) (by decide), i64_of (x := 6) (by decide), i64_of (x := 3) (by decide)⟩
          · exact ⟨txtT (l := [97]) (by decide) (by decide), i64_of (x := 4) (by decide), i64_of (x := 3) (by decide)⟩
          · exact ⟨txtT (l := [98]) (by decide) (by decide), i64_of (x := 5) (by decide), i64_of (x := 1) (by decide)⟩)
    case rest =>
      obtain ⟨b3, vk3, hbn3, hT3, ⟨pF3, cF3⟩, gF3⟩ := hcut
      have HBn3 := Lib.hid hbn3
      clear hbn3
      obtain ⟨wF3, hwF3⟩ : ∃ x, x = wc := ⟨_, rfl⟩
      subst hwF3
      have HT1 := Lib.hid (HT1.out.chose gF3 hKw)
      have HT2 := Lib.hid (HT2.out.chose gF3 hKw)
      have HT3 := Lib.hid hT3
      have HCF3 := Lib.hid cF3
      have HGF3 := Lib.hid (World.grownBy.trans HGF2.out gF3)
      clear hT3 cF3 gF3
      obtain ⟨wB4, hwwB4⟩ : ∃ x, x = (((wF3.alloc (.cells #[.string ⟨#[102]⟩, .int .i64 8, .int .i64 4] 137)).alloc (.cells #[.int .i64 1, .int .i64 3, .int .i64 5] 3)).alloc (.cells #[.int .u64 0, .int .u64 7] 49)) := ⟨_, rfl⟩
      have gwB4 : wF3.grownBy wB4 none := by
        rw [hwwB4]
        exact (((grown_alloc _ _ _).trans (grown_alloc _ _ _)).trans (grown_alloc _ _ _))
      have zwB4 : wB4.heap.size = wF3.heap.size + 3 := by rw [hwwB4]; simp
      have hK4 := HCF3.out.lt
      have x04 : Bx K wF3.heap.size [.string ⟨#[102]⟩, .int .i64 8, .int .i64 4] wB4 := by
        rw [hwwB4]
        exact (((Bx.new hK4 [.string ⟨#[102]⟩, .int .i64 8, .int .i64 4] 137).alloc (.cells #[.int .i64 1, .int .i64 3, .int .i64 5] 3)).alloc (.cells #[.int .u64 0, .int .u64 7] 49))
      have x14 : Bx K (wF3.heap.size + 1) [.int .i64 1, .int .i64 3, .int .i64 5] wB4 := by
        rw [hwwB4]
        have := ((Bx.new (K := K) (W := (wF3.alloc (.cells #[.string ⟨#[102]⟩, .int .i64 8, .int .i64 4] 137))) (by simp; omega) [.int .i64 1, .int .i64 3, .int .i64 5] 3).alloc (.cells #[.int .u64 0, .int .u64 7] 49))
        simpa only [World.size_alloc, Nat.add_assoc] using this
      have x24 : Bx K (wF3.heap.size + 2) [.int .u64 0, .int .u64 7] wB4 := by
        rw [hwwB4]
        have := (Bx.new (K := K) (W := ((wF3.alloc (.cells #[.string ⟨#[102]⟩, .int .i64 8, .int .i64 4] 137)).alloc (.cells #[.int .i64 1, .int .i64 3, .int .i64 5] 3))) (by simp; omega) [.int .u64 0, .int .u64 7] 49)
        simpa only [World.size_alloc, Nat.add_assoc] using this
      have cwB4 := HCF3.out.kept gwB4 (by simp) (by simp)
      have HN4 := Lib.hid (next5 cwB4)
      have HX04 := Lib.hid x04
      have HX14 := Lib.hid x14
      have HX24 := Lib.hid x24
      have HWwB4 := Lib.hid hwwB4
      have HGwB4 := Lib.hid (World.grownBy.trans HGF3.out (grown_below gwB4))
      have HgW4 : Hid (wF3.grownBy wB4 (some K)) := Lib.hid (grown_below gwB4)
      have HZwB4 := Lib.hid zwB4
      clear x04 x14 x24 cwB4 hwwB4 gwB4 zwB4
      go_wp2_with fail
      rw [← HWwB4.out]
      refine HN4.out.mono ?_
      rintro e wC4 ⟨s4, hs4, rfl, hgwC4, pwC4, cwC4⟩
      have as4 : (s4 : Int) < 5 := by omega
      have bs4 : 0 ≤ (s4 : Int) := by omega
      have HX04 := Lib.hid (HX04.out.chose hgwC4)
      have HX14 := Lib.hid (HX14.out.chose hgwC4)
      have HX24 := Lib.hid (HX24.out.chose hgwC4)
      have HGwC4 := Lib.hid (World.grownBy.trans HGwB4.out hgwC4)
      have HgW4 := Lib.hid (World.grownBy.trans HgW4.out hgwC4)
      have zwC4 : wB4.heap.size ≤ wC4.heap.size := hgwC4.size
      have Hvs4 := Lib.hid hs4
      obtain ⟨wD4, hwwD4⟩ : ∃ x, x = wC4.alloc (.cells #[.int .i64 4, .string ⟨#[115, 112, 97, 110, 115]⟩, .slice (some ⟨wF3.heap.size, 0, none⟩) 1 1, .slice (some ⟨wF3.heap.size + 1, 0, none⟩) 3 3, .int .i64 3, .slice (some ⟨wF3.heap.size + 2, 0, none⟩) 1 1, .int .i64 (3 + (s4 : Int)), .string ⟨#[]⟩] 59) := ⟨_, rfl⟩
      have hK4c := cwC4.lt
      have xwD4 : Bx K wC4.heap.size [.int .i64 4, .string ⟨#[115, 112, 97, 110, 115]⟩, .slice (some ⟨wF3.heap.size, 0, none⟩) 1 1, .slice (some ⟨wF3.heap.size + 1, 0, none⟩) 3 3, .int .i64 3, .slice (some ⟨wF3.heap.size + 2, 0, none⟩) 1 1, .int .i64 (3 + (s4 : Int)), .string ⟨#[]⟩] wD4 := by rw [hwwD4]; exact Bx.new hK4c [.int .i64 4, .string ⟨#[115, 112, 97, 110, 115]⟩, .slice (some ⟨wF3.heap.size, 0, none⟩) 1 1, .slice (some ⟨wF3.heap.size + 1, 0, none⟩) 3 3, .int .i64 3, .slice (some ⟨wF3.heap.size + 2, 0, none⟩) 1 1, .int .i64 (3 + (s4 : Int)), .string ⟨#[]⟩] _
      have gwD4 : wC4.grownBy wD4 none := by rw [hwwD4]; exact grown_alloc _ _ _
      have cwD4 := cwC4.kept gwD4 (by simp) (by simp)
      have swD4 : SameB w.heap.size wC4.heap.size wC4 wD4 := by rw [hwwD4]; exact .of_alloc (Nat.le_refl _) _
      have hgs4 := HGF3.out.size
      have hzb4 := HZwB4.out
      have rk4 : RowH 3 KeyV w.heap.size wC4.heap.size wC4 (.slice (some ⟨wF3.heap.size, 0, none⟩) 1 1) [⟨[102], 8, 4⟩] := keys_lit [⟨[102], 8, 4⟩] HX04.out (by omega) (by omega) rfl (by decide) (by
        intro x hx
        simp only [List.mem_cons, List.not_mem_nil, or_false] at hx
        rcases hx with rfl
        · exact ⟨txtT (l := [102]) (by decide) (by decide), i64_of (x := 8) (by decide), i64_of (x := 4) (by decide)⟩)
      have ra4 : RowH 1 I64V w.heap.size wC4.heap.size wC4 (.slice (some ⟨wF3.heap.size + 1, 0, none⟩) 3 3) [1, 3, 5] := ints_lit [1, 3, 5] HX14.out (by omega) (by omega) rfl (by decide) (by
        intro x hx
        simp only [List.mem_cons, List.not_mem_nil, or_false] at hx
        rcases hx with rfl | rfl | rfl <;> exact i64_of (by decide))
      have rr4 : RowH 2 ValV w.heap.size wC4.heap.size wC4 (.slice (some ⟨wF3.heap.size + 2, 0, none⟩) 1 1) [7] := HX24.out.row (P := ValV) (sz := 2) (by omega) (by omega) [([.int .u64 0, .int .u64 7], 7)] (fun q hq => by rw [List.mem_singleton.1 hq]; rfl) rfl (by decide) rfl (fun q hq w2 B _ _ => by
        rw [List.mem_singleton.1 hq]
        exact ⟨by show _ = [Value.int .u64 (hi 7), Value.int .u64 (lo 7)]; rw [show hi 7 = 0 from by unfold hi; omega, show lo 7 = 7 from by unfold lo; omega], by decide⟩)
      have HgD4 := Lib.hid gwD4
      have HWwD4 := Lib.hid hwwD4
      have HXwD4 := Lib.hid xwD4
      have HSwD4 := Lib.hid swD4
      have HRk4 := Lib.hid rk4
      have HRa4 := Lib.hid ra4
      have HRr4 := Lib.hid rr4
      have HGwD4 := Lib.hid (World.grownBy.trans HGwC4.out (grown_below gwD4))
      have HgW4 := Lib.hid (World.grownBy.trans HgW4.out (grown_below gwD4))
      have HCwD4 := Lib.hid cwD4
      have HaT4 : Hid (w.heap.size ≤ wC4.heap.size) := Lib.hid (by omega)
      have HWT4 : Hid (wF3.heap.size ≤ wC4.heap.size) := Lib.hid (by omega)
      have HBo4 := Lib.hid (cobool_z cwD4)
      clear hwwD4 xwD4 swD4 rk4 ra4 rr4 gwD4 cwD4 cwC4 hgwC4 hgs4 hzb4
      go_wp2_with fail
      rw [← HWwD4.out]
      refine HBo4.out.mono ?_
      rintro e wE4 ⟨bb, hbz4, rfl, hgwE4, pwE4, cwE4⟩
      have HBz4 := Lib.hid hbz4
      clear hbz4
      have HXwE4 := Lib.hid (HXwD4.out.chose hgwE4)
      have HX04 := Lib.hid ((HX04.out.kept HgD4.out (by simp)).chose hgwE4)
      have HgW4 := Lib.hid (World.grownBy.trans HgW4.out hgwE4)
      have HS4 := Lib.hid (HSwD4.out.trans (.of_grown hgwE4 (Nat.le_of_lt HXwD4.out.lt) (fun k e => by injection e with e; omega)))
      have HCE4 := Lib.hid cwE4
      clear hgwE4 cwE4 HBo4
      go_upto_if 61 with (fail)
      go_cut [] from 62 to 68 (fun wx => TabS K D wC4.heap.size w.heap.size l wF3 (fun b => tab4D b s4 []) (.slice (some ⟨wF3.heap.size + 1, 0, none⟩) 3 3) (.slice (some ⟨wF3.heap.size + 2, 0, none⟩) 1 1) wx)
      case first =>
        cases bb
        · go_wp2_with fail
          go_meet
          exact tab_none HaT4.out HS4.out HXwE4.out HRk4.out HRa4.out HRr4.out HCE4.out HgW4.out
        · have m2 : wE4.cell? ⟨wC4.heap.size, 2, none⟩ = some (.slice (some ⟨wF3.heap.size, 0, none⟩) 1 1) := HXwE4.out.c 2 (by simp)
          have f2 := HXwE4.out.f 2
          go_wp2_with (at_builtin; (refine wpList_append_grows _ rfl (.tmp 63) (.tmp 66) 56 rfl 137 i0 _ 3 32 Tryz.underlying56 hi0 hz0 hy1 hy2 rfl (by decide) (some ⟨wF3.heap.size, 0, none⟩) 1 1 [.string ⟨#[102]⟩, .int .i64 8, .int .i64 4] rfl (by simp) rfl (Bx.holds (HX04.out.alloc _)) ⟨wE4.heap.size, 0, none⟩ 2 2 [.string ⟨#[103]⟩, .int .i64 9, .int .i64 1, .string ⟨#[100]⟩, .int .i64 7, .int .i64 2] rfl rfl (World.news_of_block (cs := #[.string ⟨#[103]⟩, .int .i64 9, .int .i64 1, .string ⟨#[100]⟩, .int .i64 7, .int .i64 2]) (t := 137) (fr := (0, 0)) (heap_alloc_new wE4 _)) (by intro u hu; simp at hu; rcases hu with rfl | rfl | rfl | rfl | rfl | rfl <;> rfl) (by decide) (by decide) (by decide) ?_; intro v6 w6 hO6 hg6; obtain ⟨A6, cap6, rfl⟩ := own_shapeH hO6; have HX6 := Lib.hid ((HXwE4.out.alloc _).kept hg6 (by simp)); have o6 := HX6.out.c 2 (by simp); have f6 := HX6.out.f 2; have HO6 := Lib.hid hO6; have HG6 := Lib.hid hg6; clear hO6 hg6))
          go_meet
          exact tab_some (d := fun b => tab4D b s4 []) (fun e => by have := HBz4.out e; cases this) HaT4.out hKw (fun e => Nat.lt_of_lt_of_le (HDl.out e) HaT4.out) HWT4.out HS4.out HXwE4.out HRa4.out HRr4.out HCE4.out HgW4.out HO6.out HG6.out rfl rfl (by
            intro x hx
            simp only [tab4D, if_true, List.mem_cons, List.not_mem_nil, or_false] at hx
            rcases hx with rfl | rfl | rfl
            · exact ⟨txtT (l := [102]) (by decide) (by decide), i64_of (x := 8) (by decide), i64_of (x := 4) (by decide)⟩
            · exact ⟨txtT (l := [103]) (by decide) (by decide), i64_of (x := 9) (by decide), i64_of (x := 1) (by decide)⟩
            · exact ⟨txtT (l := [100]) (by decide) (by decide), i64_of (x := 7) (by decide), i64_of (x := 2) (by decide)⟩)
      case rest =>
        obtain ⟨b4, vk4, hbn4, hT4, ⟨pF4, cF4⟩, gF4⟩ := hcut
        have HBn4 := Lib.hid hbn4
        clear hbn4
        obtain ⟨wF4, hwF4⟩ : ∃ x, x = wc := ⟨_, rfl⟩
        subst hwF4
        have HT1 := Lib.hid (HT1.out.chose gF4 hKw)
        have HT2 := Lib.hid (HT2.out.chose gF4 hKw)
        have HT3 := Lib.hid (HT3.out.chose gF4 hKw)
        have HT4 := Lib.hid hT4
        have HCF4 := Lib.hid cF4
        have HGF4 := Lib.hid (World.grownBy.trans HGF3.out gF4)
        clear hT4 cF4 gF4
        have hT1 : TabC w.heap.size K wC1.heap.size (tab1D q s1 []) (.slice (some ⟨w.heap.size, 0, none⟩) 1 1) (.slice (some ⟨w.heap.size + 1, 0, none⟩) 3 3) (.slice none 0 0) wF4 := HT1.out
        have m1_0 : wF4.cell? ⟨wC1.heap.size, 0, none⟩ = some (.int .i64 1) := hT1.box.c 0 (by simp)
        have m1_1 : wF4.cell? ⟨wC1.heap.size, 1, none⟩ = some (.string ⟨#[112, 111, 114, 116, 115]⟩) := hT1.box.c 1 (by simp)
        have m1_2 : wF4.cell? ⟨wC1.heap.size, 2, none⟩ = some (.slice (some ⟨w.heap.size, 0, none⟩) 1 1) := hT1.box.c 2 (by simp)
        have m1_3 : wF4.cell? ⟨wC1.heap.size, 3, none⟩ = some (.slice (some ⟨w.heap.size + 1, 0, none⟩) 3 3) := hT1.box.c 3 (by simp)
        have m1_4 : wF4.cell? ⟨wC1.heap.size, 4, none⟩ = some (.int .i64 (1 + (q : Int))) := hT1.box.c 4 (by simp)
        have m1_5 : wF4.cell? ⟨wC1.heap.size, 5, none⟩ = some (.slice none 0 0) := hT1.box.c 5 (by simp)
        have m1_6 : wF4.cell? ⟨wC1.heap.size, 6, none⟩ = some (.int .i64 (2 + (s1 : Int))) := hT1.box.c 6 (by simp)
        have m1_7 : wF4.cell? ⟨wC1.heap.size, 7, none⟩ = some (.string ⟨#[]⟩) := hT1.box.c 7 (by simp)
        have HTT1 := Lib.hid hT1
        obtain ⟨A2, n2, c2, rfl⟩ := HT2.out.ks.form (Nat.le_refl _)
        have hT2 : TabC w.heap.size K wC2.heap.size (tab2D b2 s2 []) (.slice A2 n2 c2) (.slice (some ⟨wC1.heap.size + 1 + 1, 0, none⟩) 4 4) (.slice none 0 0) wF4 := HT2.out
        have m2_0 : wF4.cell? ⟨wC2.heap.size, 0, none⟩ = some (.int .i64 2) := hT2.box.c 0 (by simp)
        have m2_1 : wF4.cell? ⟨wC2.heap.size, 1, none⟩ = some (.string ⟨#[114, 111, 117, 116, 101, 115]⟩) := hT2.box.c 1 (by simp)
        have m2_2 : wF4.cell? ⟨wC2.heap.size, 2, none⟩ = some (.slice A2 n2 c2) := hT2.box.c 2 (by simp)
        have m2_3 : wF4.cell? ⟨wC2.heap.size, 3, none⟩ = some (.slice (some ⟨wC1.heap.size + 1 + 1, 0, none⟩) 4 4) := hT2.box.c 3 (by simp)
        have m2_4 : wF4.cell? ⟨wC2.heap.size, 4, none⟩ = some (.int .i64 2) := hT2.box.c 4 (by simp)
        have m2_5 : wF4.cell? ⟨wC2.heap.size, 5, none⟩ = some (.slice none 0 0) := hT2.box.c 5 (by simp)
        have m2_6 : wF4.cell? ⟨wC2.heap.size, 6, none⟩ = some (.int .i64 (3 + (s2 : Int))) := hT2.box.c 6 (by simp)
        have m2_7 : wF4.cell? ⟨wC2.heap.size, 7, none⟩ = some (.string ⟨#[]⟩) := hT2.box.c 7 (by simp)
        have HTT2 := Lib.hid hT2
        obtain ⟨A3, n3, c3, rfl⟩ := HT3.out.ks.form (Nat.le_refl _)
        have hT3 : TabC w.heap.size K wC3.heap.size (tab3D b3 s3 []) (.slice A3 n3 c3) (.slice (some ⟨wF2.heap.size + 1, 0, none⟩) 5 5) (.slice none 0 0) wF4 := HT3.out
        have m3_0 : wF4.cell? ⟨wC3.heap.size, 0, none⟩ = some (.int .i64 3) := hT3.box.c 0 (by simp)
        have m3_1 : wF4.cell? ⟨wC3.heap.size, 1, none⟩ = some (.string ⟨#[97, 99, 108]⟩) := hT3.box.c 1 (by simp)
        have m3_2 : wF4.cell? ⟨wC3.heap.size, 2, none⟩ = some (.slice A3 n3 c3) := hT3.box.c 2 (by simp)
        have m3_3 : wF4.cell? ⟨wC3.heap.size, 3, none⟩ = some (.slice (some ⟨wF2.heap.size + 1, 0, none⟩) 5 5) := hT3.box.c 3 (by simp)
        have m3_4 : wF4.cell? ⟨wC3.heap.size, 4, none⟩ = some (.int .i64 1) := hT3.box.c 4 (by simp)
        have m3_5 : wF4.cell? ⟨wC3.heap.size, 5, none⟩ = some (.slice none 0 0) := hT3.box.c 5 (by simp)
        have m3_6 : wF4.cell? ⟨wC3.heap.size, 6, none⟩ = some (.int .i64 (4 + (s3 : Int))) := hT3.box.c 6 (by simp)
        have m3_7 : wF4.cell? ⟨wC3.heap.size, 7, none⟩ = some (.string ⟨#[]⟩) := hT3.box.c 7 (by simp)
        have HTT3 := Lib.hid hT3
        obtain ⟨A4, n4, c4, rfl⟩ := HT4.out.ks.form (Nat.le_refl _)
        have hT4 : TabC w.heap.size K wC4.heap.size (tab4D b4 s4 []) (.slice A4 n4 c4) (.slice (some ⟨wF3.heap.size + 1, 0, none⟩) 3 3) (.slice (some ⟨wF3.heap.size + 2, 0, none⟩) 1 1) wF4 := HT4.out
        have m4_0 : wF4.cell? ⟨wC4.heap.size, 0, none⟩ = some (.int .i64 4) := hT4.box.c 0 (by simp)
        have m4_1 : wF4.cell? ⟨wC4.heap.size, 1, none⟩ = some (.string ⟨#[115, 112, 97, 110, 115]⟩) := hT4.box.c 1 (by simp)
        have m4_2 : wF4.cell? ⟨wC4.heap.size, 2, none⟩ = some (.slice A4 n4 c4) := hT4.box.c 2 (by simp)
        have m4_3 : wF4.cell? ⟨wC4.heap.size, 3, none⟩ = some (.slice (some ⟨wF3.heap.size + 1, 0, none⟩) 3 3) := hT4.box.c 3 (by simp)
        have m4_4 : wF4.cell? ⟨wC4.heap.size, 4, none⟩ = some (.int .i64 3) := hT4.box.c 4 (by simp)
        have m4_5 : wF4.cell? ⟨wC4.heap.size, 5, none⟩ = some (.slice (some ⟨wF3.heap.size + 2, 0, none⟩) 1 1) := hT4.box.c 5 (by simp)
        have m4_6 : wF4.cell? ⟨wC4.heap.size, 6, none⟩ = some (.int .i64 (3 + (s4 : Int))) := hT4.box.c 6 (by simp)
        have m4_7 : wF4.cell? ⟨wC4.heap.size, 7, none⟩ = some (.string ⟨#[]⟩) := hT4.box.c 7 (by simp)
        have HTT4 := Lib.hid hT4
        clear hT1 hT2 hT3 hT4
        obtain ⟨wT, hwT⟩ : ∃ x, x = ((((((wF4.alloc (.cells #[.int .i64 1, .string ⟨#[112, 111, 114, 116, 115]⟩, .slice (some ⟨w.heap.size, 0, none⟩) 1 1, .slice (some ⟨w.heap.size + 1, 0, none⟩) 3 3, .int .i64 (1 + (q : Int)), .slice none 0 0, .int .i64 (2 + (s1 : Int)), .string ⟨#[]⟩, .int .i64 2, .string ⟨#[114, 111, 117, 116, 101, 115]⟩, .slice A2 n2 c2, .slice (some ⟨wC1.heap.size + 1 + 1, 0, none⟩) 4 4, .int .i64 2, .slice none 0 0, .int .i64 (3 + (s2 : Int)), .string ⟨#[]⟩, .int .i64 3, .string ⟨#[97, 99, 108]⟩, .slice A3 n3 c3, .slice (some ⟨wF2.heap.size + 1, 0, none⟩) 5 5, .int .i64 1, .slice none 0 0, .int .i64 (4 + (s3 : Int)), .string ⟨#[]⟩, .int .i64 4, .string ⟨#[115, 112, 97, 110, 115]⟩, .slice A4 n4 c4, .slice (some ⟨wF3.heap.size + 1, 0, none⟩) 3 3, .int .i64 3, .slice (some ⟨wF3.heap.size + 2, 0, none⟩) 1 1, .int .i64 (3 + (s4 : Int)), .string ⟨#[]⟩] 59)).alloc (.cells #[.string ⟨#[]⟩, .string ⟨#[97, 32, 33, 61, 32, 48]⟩, .string ⟨#[97, 32, 60, 32, 49, 52, 32, 38, 38, 32, 97, 32, 33, 61, 32, 51]⟩] 9)).alloc (.cells #[.string ⟨#[]⟩, .string ⟨#[100, 58, 58, 112, 114, 101, 102, 105, 120, 95, 108, 101, 110, 103, 116, 104, 32, 62, 61, 32, 56]⟩, .string ⟨#[100, 58, 58, 112, 114, 101, 102, 105, 120, 95, 108, 101, 110, 103, 116, 104, 32, 61, 61, 32, 51, 50, 32, 45, 62, 32, 100, 58, 58, 118, 97, 108, 117, 101, 32, 62, 32, 48, 120, 102, 102]⟩] 9)).alloc (.cells #[.string ⟨#[]⟩, .string ⟨#[112, 114, 105, 111, 114, 105, 116, 121, 32, 60, 32, 49, 48, 48, 32, 38, 38, 32, 40, 101, 58, 58, 109, 97, 115, 107, 32, 33, 61, 32, 48, 32, 124, 124, 32, 97, 58, 58, 109, 97, 115, 107, 32, 33, 61, 32, 48, 41]⟩, .string ⟨#[101, 58, 58, 109, 97, 115, 107, 32, 61, 61, 32, 48, 32, 45, 62, 32, 112, 114, 105, 111, 114, 105, 116, 121, 32, 62, 32, 53]⟩] 9)).alloc (.cells #[.string ⟨#[]⟩, .string ⟨#[102, 58, 58, 104, 105, 103, 104, 32, 45, 32, 102, 58, 58, 108, 111, 119, 32, 60, 61, 32, 48, 120, 49, 48, 48]⟩, .string ⟨#[33, 40, 102, 58, 58, 108, 111, 119, 32, 61, 61, 32, 48, 32, 38, 38, 32, 102, 58, 58, 104, 105, 103, 104, 32, 62, 32, 49, 48, 48, 48, 41]⟩] 9)).alloc (.cells #[.slice (some ⟨wF4.heap.size + 1, 0, none⟩) 3 3, .slice (some ⟨wF4.heap.size + 1 + 1, 0, none⟩) 3 3, .slice (some ⟨wF4.heap.size + 1 + 1 + 1, 0, none⟩) 3 3, .slice (some ⟨wF4.heap.size + 1 + 1 + 1 + 1, 0, none⟩) 3 3] 179)) := ⟨_, rfl⟩
        have gT : wF4.grownBy wT none := by
          rw [hwT]
          exact ((((((grown_alloc _ _ _).trans (grown_alloc _ _ _)).trans (grown_alloc _ _ _)).trans (grown_alloc _ _ _)).trans (grown_alloc _ _ _)).trans (grown_alloc _ _ _))
        have zT : wT.heap.size = wF4.heap.size + 6 := by rw [hwT]; simp
        have hKF := HCF4.out.lt
        have y0 : Bx K (wF4.heap.size) [.int .i64 1, .string ⟨#[112, 111, 114, 116, 115]⟩, .slice (some ⟨w.heap.size, 0, none⟩) 1 1, .slice (some ⟨w.heap.size + 1, 0, none⟩) 3 3, .int .i64 (1 + (q : Int)), .slice none 0 0, .int .i64 (2 + (s1 : Int)), .string ⟨#[]⟩, .int .i64 2, .string ⟨#[114, 111, 117, 116, 101, 115]⟩, .slice A2 n2 c2, .slice (some ⟨wC1.heap.size + 1 + 1, 0, none⟩) 4 4, .int .i64 2, .slice none 0 0, .int .i64 (3 + (s2 : Int)), .string ⟨#[]⟩, .int .i64 3, .string ⟨#[97, 99, 108]⟩, .slice A3 n3 c3, .slice (some ⟨wF2.heap.size + 1, 0, none⟩) 5 5, .int .i64 1, .slice none 0 0, .int .i64 (4 + (s3 : Int)), .string ⟨#[]⟩, .int .i64 4, .string ⟨#[115, 112, 97, 110, 115]⟩, .slice A4 n4 c4, .slice (some ⟨wF3.heap.size + 1, 0, none⟩) 3 3, .int .i64 3, .slice (some ⟨wF3.heap.size + 2, 0, none⟩) 1 1, .int .i64 (3 + (s4 : Int)), .string ⟨#[]⟩] wT := by
          rw [hwT]
          exact ((((((Bx.new hKF [.int .i64 1, .string ⟨#[112, 111, 114, 116, 115]⟩, .slice (some ⟨w.heap.size, 0, none⟩) 1 1, .slice (some ⟨w.heap.size + 1, 0, none⟩) 3 3, .int .i64 (1 + (q : Int)), .slice none 0 0, .int .i64 (2 + (s1 : Int)), .string ⟨#[]⟩, .int .i64 2, .string ⟨#[114, 111, 117, 116, 101, 115]⟩, .slice A2 n2 c2, .slice (some ⟨wC1.heap.size + 1 + 1, 0, none⟩) 4 4, .int .i64 2, .slice none 0 0, .int .i64 (3 + (s2 : Int)), .string ⟨#[]⟩, .int .i64 3, .string ⟨#[97, 99, 108]⟩, .slice A3 n3 c3, .slice (some ⟨wF2.heap.size + 1, 0, none⟩) 5 5, .int .i64 1, .slice none 0 0, .int .i64 (4 + (s3 : Int)), .string ⟨#[]⟩, .int .i64 4, .string ⟨#[115, 112, 97, 110, 115]⟩, .slice A4 n4 c4, .slice (some ⟨wF3.heap.size + 1, 0, none⟩) 3 3, .int .i64 3, .slice (some ⟨wF3.heap.size + 2, 0, none⟩) 1 1, .int .i64 (3 + (s4 : Int)), .string ⟨#[]⟩] 59).alloc (.cells #[.string ⟨#[]⟩, .string ⟨#[97, 32, 33, 61, 32, 48]⟩, .string ⟨#[97, 32, 60, 32, 49, 52, 32, 38, 38, 32, 97, 32, 33, 61, 32, 51]⟩] 9)).alloc (.cells #[.string ⟨#[]⟩, .string ⟨#[100, 58, 58, 112, 114, 101, 102, 105, 120, 95, 108, 101, 110, 103, 116, 104, 32, 62, 61, 32, 56]⟩, .string ⟨#[100, 58, 58, 112, 114, 101, 102, 105, 120, 95, 108, 101, 110, 103, 116, 104, 32, 61, 61, 32, 51, 50, 32, 45, 62, 32, 100, 58, 58, 118, 97, 108, 117, 101, 32, 62, 32, 48, 120, 102, 102]⟩] 9)).alloc (.cells #[.string ⟨#[]⟩, .string ⟨#[112, 114, 105, 111, 114, 105, 116, 121, 32, 60, 32, 49, 48, 48, 32, 38, 38, 32, 40, 101, 58, 58, 109, 97, 115, 107, 32, 33, 61, 32, 48, 32, 124, 124, 32, 97, 58, 58, 109, 97, 115, 107, 32, 33, 61, 32, 48, 41]⟩, .string ⟨#[101, 58, 58, 109, 97, 115, 107, 32, 61, 61, 32, 48, 32, 45, 62, 32, 112, 114, 105, 111, 114, 105, 116, 121, 32, 62, 32, 53]⟩] 9)).alloc (.cells #[.string ⟨#[]⟩, .string ⟨#[102, 58, 58, 104, 105, 103, 104, 32, 45, 32, 102, 58, 58, 108, 111, 119, 32, 60, 61, 32, 48, 120, 49, 48, 48]⟩, .string ⟨#[33, 40, 102, 58, 58, 108, 111, 119, 32, 61, 61, 32, 48, 32, 38, 38, 32, 102, 58, 58, 104, 105, 103, 104, 32, 62, 32, 49, 48, 48, 48, 41]⟩] 9)).alloc (.cells #[.slice (some ⟨wF4.heap.size + 1, 0, none⟩) 3 3, .slice (some ⟨wF4.heap.size + 1 + 1, 0, none⟩) 3 3, .slice (some ⟨wF4.heap.size + 1 + 1 + 1, 0, none⟩) 3 3, .slice (some ⟨wF4.heap.size + 1 + 1 + 1 + 1, 0, none⟩) 3 3] 179))
        have y1 : Bx K (wF4.heap.size + 1) [.string ⟨#[]⟩, .string ⟨#[97, 32, 33, 61, 32, 48]⟩, .string ⟨#[97, 32, 60, 32, 49, 52, 32, 38, 38, 32, 97, 32, 33, 61, 32, 51]⟩] wT := by
          rw [hwT]
          have := (((((Bx.new (K := K) (W := (wF4.alloc (.cells #[.int .i64 1, .string ⟨#[112, 111, 114, 116, 115]⟩, .slice (some ⟨w.heap.size, 0, none⟩) 1 1, .slice (some ⟨w.heap.size + 1, 0, none⟩) 3 3, .int .i64 (1 + (q : Int)), .slice none 0 0, .int .i64 (2 + (s1 : Int)), .string ⟨#[]⟩, .int .i64 2, .string ⟨#[114, 111, 117, 116, 101, 115]⟩, .slice A2 n2 c2, .slice (some ⟨wC1.heap.size + 1 + 1, 0, none⟩) 4 4, .int .i64 2, .slice none 0 0, .int .i64 (3 + (s2 : Int)), .string ⟨#[]⟩, .int .i64 3, .string ⟨#[97, 99, 108]⟩, .slice A3 n3 c3, .slice (some ⟨wF2.heap.size + 1, 0, none⟩) 5 5, .int .i64 1, .slice none 0 0, .int .i64 (4 + (s3 : Int)), .string ⟨#[]⟩, .int .i64 4, .string ⟨#[115, 112, 97, 110, 115]⟩, .slice A4 n4 c4, .slice (some ⟨wF3.heap.size + 1, 0, none⟩) 3 3, .int .i64 3, .slice (some ⟨wF3.heap.size + 2, 0, none⟩) 1 1, .int .i64 (3 + (s4 : Int)), .string ⟨#[]⟩] 59))) (by simp; omega) [.string ⟨#[]⟩, .string ⟨#[97, 32, 33, 61, 32, 48]⟩, .string ⟨#[97, 32, 60, 32, 49, 52, 32, 38, 38, 32, 97, 32, 33, 61, 32, 51]⟩] 9).alloc (.cells #[.string ⟨#[]⟩, .string ⟨#[100, 58, 58, 112, 114, 101, 102, 105, 120, 95, 108, 101, 110, 103, 116, 104, 32, 62, 61, 32, 56]⟩, .string ⟨#[100, 58, 58, 112, 114, 101, 102, 105, 120, 95, 108, 101, 110, 103, 116, 104, 32, 61, 61, 32, 51, 50, 32, 45, 62, 32, 100, 58, 58, 118, 97, 108, 117, 101, 32, 62, 32, 48, 120, 102, 102]⟩] 9)).alloc (.cells #[.string ⟨#[]⟩, .string ⟨#[112, 114, 105, 111, 114, 105, 116, 121, 32, 60, 32, 49, 48, 48, 32, 38, 38, 32, 40, 101, 58, 58, 109, 97, 115, 107, 32, 33, 61, 32, 48, 32, 124, 124, 32, 97, 58, 58, 109, 97, 115, 107, 32, 33, 61, 32, 48, 41]⟩, .string ⟨#[101, 58, 58, 109, 97, 115, 107, 32, 61, 61, 32, 48, 32, 45, 62, 32, 112, 114, 105, 111, 114, 105, 116, 121, 32, 62, 32, 53]⟩] 9)).alloc (.cells #[.string ⟨#[]⟩, .string ⟨#[102, 58, 58, 104, 105, 103, 104, 32, 45, 32, 102, 58, 58, 108, 111, 119, 32, 60, 61, 32, 48, 120, 49, 48, 48]⟩, .string ⟨#[33, 40, 102, 58, 58, 108, 111, 119, 32, 61, 61, 32, 48, 32, 38, 38, 32, 102, 58, 58, 104, 105, 103, 104, 32, 62, 32, 49, 48, 48, 48, 41]⟩] 9)).alloc (.cells #[.slice (some ⟨wF4.heap.size + 1, 0, none⟩) 3 3, .slice (some ⟨wF4.heap.size + 1 + 1, 0, none⟩) 3 3, .slice (some ⟨wF4.heap.size + 1 + 1 + 1, 0, none⟩) 3 3, .slice (some ⟨wF4.heap.size + 1 + 1 + 1 + 1, 0, none⟩) 3 3] 179))
          simpa only [World.size_alloc] using this
        have y2 : Bx K (wF4.heap.size + 1 + 1) [.string ⟨#[]⟩, .string ⟨#[100, 58, 58, 112, 114, 101, 102, 105, 120, 95, 108, 101, 110, 103, 116, 104, 32, 62, 61, 32, 56]⟩, .string ⟨#[100, 58, 58, 112, 114, 101, 102, 105, 120, 95, 108, 101, 110, 103, 116, 104, 32, 61, 61, 32, 51, 50, 32, 45, 62, 32, 100, 58, 58, 118, 97, 108, 117, 101, 32, 62, 32, 48, 120, 102, 102]⟩] wT := by
          rw [hwT]
          have := ((((Bx.new (K := K) (W := ((wF4.alloc (.cells #[.int .i64 1, .string ⟨#[112, 111, 114, 116, 115]⟩, .slice (some ⟨w.heap.size, 0, none⟩) 1 1, .slice (some ⟨w.heap.size + 1, 0, none⟩) 3 3, .int .i64 (1 + (q : Int)), .slice none 0 0, .int .i64 (2 + (s1 : Int)), .string ⟨#[]⟩, .int .i64 2, .string ⟨#[114, 111, 117, 116, 101, 115]⟩, .slice A2 n2 c2, .slice (some ⟨wC1.heap.size + 1 + 1, 0, none⟩) 4 4, .int .i64 2, .slice none 0 0, .int .i64 (3 + (s2 : Int)), .string ⟨#[]⟩, .int .i64 3, .string ⟨#[97, 99, 108]⟩, .slice A3 n3 c3, .slice (some ⟨wF2.heap.size + 1, 0, none⟩) 5 5, .int .i64 1, .slice none 0 0, .int .i64 (4 + (s3 : Int)), .string ⟨#[]⟩, .int .i64 4, .string ⟨#[115, 112, 97, 110, 115]⟩, .slice A4 n4 c4, .slice (some ⟨wF3.heap.size + 1, 0, none⟩) 3 3, .int .i64 3, .slice (some ⟨wF3.heap.size + 2, 0, none⟩) 1 1, .int .i64 (3 + (s4 : Int)), .string ⟨#[]⟩] 59)).alloc (.cells #[.string ⟨#[]⟩, .string ⟨#[97, 32, 33, 61, 32, 48]⟩, .string ⟨#[97, 32, 60, 32, 49, 52, 32, 38, 38, 32, 97, 32, 33, 61, 32, 51]⟩] 9))) (by simp; omega) [.string ⟨#[]⟩, .string ⟨#[100, 58, 58, 112, 114, 101, 102, 105, 120, 95, 108, 101, 110, 103, 116, 104, 32, 62, 61, 32, 56]⟩, .string ⟨#[100, 58, 58, 112, 114, 101, 102, 105, 120, 95, 108, 101, 110, 103, 116, 104, 32, 61, 61, 32, 51, 50, 32, 45, 62, 32, 100, 58, 58, 118, 97, 108, 117, 101, 32, 62, 32, 48, 120, 102, 102]⟩] 9).alloc (.cells #[.string ⟨#[]⟩, .string ⟨#[112, 114, 105, 111, 114, 105, 116, 121, 32, 60, 32, 49, 48, 48, 32, 38, 38, 32, 40, 101, 58, 58, 109, 97, 115, 107, 32, 33, 61, 32, 48, 32, 124, 124, 32, 97, 58, 58, 109, 97, 115, 107, 32, 33, 61, 32, 48, 41]⟩, .string ⟨#[101, 58, 58, 109, 97, 115, 107, 32, 61, 61, 32, 48, 32, 45, 62, 32, 112, 114, 105, 111, 114, 105, 116, 121, 32, 62, 32, 53]⟩] 9)).alloc (.cells #[.string ⟨#[]⟩, .string ⟨#[102, 58, 58, 104, 105, 103, 104, 32, 45, 32, 102, 58, 58, 108, 111, 119, 32, 60, 61, 32, 48, 120, 49, 48, 48]⟩, .string ⟨#[33, 40, 102, 58, 58, 108, 111, 119, 32, 61, 61, 32, 48, 32, 38, 38, 32, 102, 58, 58, 104, 105, 103, 104, 32, 62, 32, 49, 48, 48, 48, 41]⟩] 9)).alloc (.cells #[.slice (some ⟨wF4.heap.size + 1, 0, none⟩) 3 3, .slice (some ⟨wF4.heap.size + 1 + 1, 0, none⟩) 3 3, .slice (some ⟨wF4.heap.size + 1 + 1 + 1, 0, none⟩) 3 3, .slice (some ⟨wF4.heap.size + 1 + 1 + 1 + 1, 0, none⟩) 3 3] 179))
          simpa only [World.size_alloc] using this
        have y3 : Bx K (wF4.heap.size + 1 + 1 + 1) [.string ⟨#[]⟩, .string ⟨#[112, 114, 105, 111, 114, 105, 116, 121, 32, 60, 32, 49, 48, 48, 32, 38, 38, 32, 40, 101, 58, 58, 109, 97, 115, 107, 32, 33, 61, 32, 48, 32, 124, 124, 32, 97, 58, 58, 109, 97, 115, 107, 32, 33, 61, 32, 48, 41]⟩, .string ⟨#[101, 58, 58, 109, 97, 115, 107, 32, 61, 61, 32, 48, 32, 45, 62, 32, 112, 114, 105, 111, 114, 105, 116, 121, 32, 62, 32, 53]⟩] wT := by
          rw [hwT]
          have := (((Bx.new (K := K) (W := (((wF4.alloc (.cells #[.int .i64 1, .string ⟨#[112, 111, 114, 116, 115]⟩, .slice (some ⟨w.heap.size, 0, none⟩) 1 1, .slice (some ⟨w.heap.size + 1, 0, none⟩) 3 3, .int .i64 (1 + (q : Int)), .slice none 0 0, .int .i64 (2 + (s1 : Int)), .string ⟨#[]⟩, .int .i64 2, .string ⟨#[114, 111, 117, 116, 101, 115]⟩, .slice A2 n2 c2, .slice (some ⟨wC1.heap.size + 1 + 1, 0, none⟩) 4 4, .int .i64 2, .slice none 0 0, .int .i64 (3 + (s2 : Int)), .string ⟨#[]⟩, .int .i64 3, .string ⟨#[97, 99, 108]⟩, .slice A3 n3 c3, .slice (some ⟨wF2.heap.size + 1, 0, none⟩) 5 5, .int .i64 1, .slice none 0 0, .int .i64 (4 + (s3 : Int)), .string ⟨#[]⟩, .int .i64 4, .string ⟨#[115, 112, 97, 110, 115]⟩, .slice A4 n4 c4, .slice (some ⟨wF3.heap.size + 1, 0, none⟩) 3 3, .int .i64 3, .slice (some ⟨wF3.heap.size + 2, 0, none⟩) 1 1, .int .i64 (3 + (s4 : Int)), .string ⟨#[]⟩] 59)).alloc (.cells #[.string ⟨#[]⟩, .string ⟨#[97, 32, 33, 61, 32, 48]⟩, .string ⟨#[97, 32, 60, 32, 49, 52, 32, 38, 38, 32, 97, 32, 33, 61, 32, 51]⟩] 9)).alloc (.cells #[.string ⟨#[]⟩, .string ⟨#[100, 58, 58, 112, 114, 101, 102, 105, 120, 95, 108, 101, 110, 103, 116, 104, 32, 62, 61, 32, 56]⟩, .string ⟨#[100, 58, 58, 112, 114, 101, 102, 105, 120, 95, 108, 101, 110, 103, 116, 104, 32, 61, 61, 32, 51, 50, 32, 45, 62, 32, 100, 58, 58, 118, 97, 108, 117, 101, 32, 62, 32, 48, 120, 102, 102]⟩] 9))) (by simp; omega) [.string ⟨#[]⟩, .string ⟨#[112, 114, 105, 111, 114, 105, 116, 121, 32, 60, 32, 49, 48, 48, 32, 38, 38, 32, 40, 101, 58, 58, 109, 97, 115, 107, 32, 33, 61, 32, 48, 32, 124, 124, 32, 97, 58, 58, 109, 97, 115, 107, 32, 33, 61, 32, 48, 41]⟩, .string ⟨#[101, 58, 58, 109, 97, 115, 107, 32, 61, 61, 32, 48, 32, 45, 62, 32, 112, 114, 105, 111, 114, 105, 116, 121, 32, 62, 32, 53]⟩] 9).alloc (.cells #[.string ⟨#[]⟩, .string ⟨#[102, 58, 58, 104, 105, 103, 104, 32, 45, 32, 102, 58, 58, 108, 111, 119, 32, 60, 61, 32, 48, 120, 49, 48, 48]⟩, .string ⟨#[33, 40, 102, 58, 58, 108, 111, 119, 32, 61, 61, 32, 48, 32, 38, 38, 32, 102, 58, 58, 104, 105, 103, 104, 32, 62, 32, 49, 48, 48, 48, 41]⟩] 9)).alloc (.cells #[.slice (some ⟨wF4.heap.size + 1, 0, none⟩) 3 3, .slice (some ⟨wF4.heap.size + 1 + 1, 0, none⟩) 3 3, .slice (some ⟨wF4.heap.size + 1 + 1 + 1, 0, none⟩) 3 3, .slice (some ⟨wF4.heap.size + 1 + 1 + 1 + 1, 0, none⟩) 3 3] 179))
          simpa only [World.size_alloc] using this
        have y4 : Bx K (wF4.heap.size + 1 + 1 + 1 + 1) [.string ⟨#[]⟩, .string ⟨#[102, 58, 58, 104, 105, 103, 104, 32, 45, 32, 102, 58, 58, 108, 111, 119, 32, 60, 61, 32, 48, 120, 49, 48, 48]⟩, .string ⟨#[33, 40, 102, 58, 58, 108, 111, 119, 32, 61, 61, 32, 48, 32, 38, 38, 32, 102, 58, 58, 104, 105, 103, 104, 32, 62, 32, 49, 48, 48, 48, 41]⟩] wT := by
          rw [hwT]
          have := ((Bx.new (K := K) (W := ((((wF4.alloc (.cells #[.int .i64 1, .string ⟨#[112, 111, 114, 116, 115]⟩, .slice (some ⟨w.heap.size, 0, none⟩) 1 1, .slice (some ⟨w.heap.size + 1, 0, none⟩) 3 3, .int .i64 (1 + (q : Int)), .slice none 0 0, .int .i64 (2 + (s1 : Int)), .string ⟨#[]⟩, .int .i64 2, .string ⟨#[114, 111, 117, 116, 101, 115]⟩, .slice A2 n2 c2, .slice (some ⟨wC1.heap.size + 1 + 1, 0, none⟩) 4 4, .int .i64 2, .slice none 0 0, .int .i64 (3 + (s2 : Int)), .string ⟨#[]⟩, .int .i64 3, .string ⟨#[97, 99, 108]⟩, .slice A3 n3 c3, .slice (some ⟨wF2.heap.size + 1, 0, none⟩) 5 5, .int .i64 1, .slice none 0 0, .int .i64 (4 + (s3 : Int)), .string ⟨#[]⟩, .int .i64 4, .string ⟨#[115, 112, 97, 110, 115]⟩, .slice A4 n4 c4, .slice (some ⟨wF3.heap.size + 1, 0, none⟩) 3 3, .int .i64 3, .slice (some ⟨wF3.heap.size + 2, 0, none⟩) 1 1, .int .i64 (3 + (s4 : Int)), .string ⟨#[]⟩] 59)).alloc (.cells #[.string ⟨#[]⟩, .string ⟨#[97, 32, 33, 61, 32, 48]⟩, .string ⟨#[97, 32, 60, 32, 49, 52, 32, 38, 38, 32, 97, 32, 33, 61, 32, 51]⟩] 9)).alloc (.cells #[.string ⟨#[]⟩, .string ⟨#[100, 58, 58, 112, 114, 101, 102, 105, 120, 95, 108, 101, 110, 103, 116, 104, 32, 62, 61, 32, 56]⟩, .string ⟨#[100, 58, 58, 112, 114, 101, 102, 105, 120, 95, 108, 101, 110, 103, 116, 104, 32, 61, 61, 32, 51, 50, 32, 45, 62, 32, 100, 58, 58, 118, 97, 108, 117, 101, 32, 62, 32, 48, 120, 102, 102]⟩] 9)).alloc (.cells #[.string ⟨#[]⟩, .string ⟨#[112, 114, 105, 111, 114, 105, 116, 121, 32, 60, 32, 49, 48, 48, 32, 38, 38, 32, 40, 101, 58, 58, 109, 97, 115, 107, 32, 33, 61, 32, 48, 32, 124, 124, 32, 97, 58, 58, 109, 97, 115, 107, 32, 33, 61, 32, 48, 41]⟩, .string ⟨#[101, 58, 58, 109, 97, 115, 107, 32, 61, 61, 32, 48, 32, 45, 62, 32, 112, 114, 105, 111, 114, 105, 116, 121, 32, 62, 32, 53]⟩] 9))) (by simp; omega) [.string ⟨#[]⟩, .string ⟨#[102, 58, 58, 104, 105, 103, 104, 32, 45, 32, 102, 58, 58, 108, 111, 119, 32, 60, 61, 32, 48, 120, 49, 48, 48]⟩, .string ⟨#[33, 40, 102, 58, 58, 108, 111, 119, 32, 61, 61, 32, 48, 32, 38, 38, 32, 102, 58, 58, 104, 105, 103, 104, 32, 62, 32, 49, 48, 48, 48, 41]⟩] 9).alloc (.cells #[.slice (some ⟨wF4.heap.size + 1, 0, none⟩) 3 3, .slice (some ⟨wF4.heap.size + 1 + 1, 0, none⟩) 3 3, .slice (some ⟨wF4.heap.size + 1 + 1 + 1, 0, none⟩) 3 3, .slice (some ⟨wF4.heap.size + 1 + 1 + 1 + 1, 0, none⟩) 3 3] 179))
          simpa only [World.size_alloc] using this
        have y5 : Bx K (wF4.heap.size + 1 + 1 + 1 + 1 + 1) [.slice (some ⟨wF4.heap.size + 1, 0, none⟩) 3 3, .slice (some ⟨wF4.heap.size + 1 + 1, 0, none⟩) 3 3, .slice (some ⟨wF4.heap.size + 1 + 1 + 1, 0, none⟩) 3 3, .slice (some ⟨wF4.heap.size + 1 + 1 + 1 + 1, 0, none⟩) 3 3] wT := by
          rw [hwT]
          have := (Bx.new (K := K) (W := (((((wF4.alloc (.cells #[.int .i64 1, .string ⟨#[112, 111, 114, 116, 115]⟩, .slice (some ⟨w.heap.size, 0, none⟩) 1 1, .slice (some ⟨w.heap.size + 1, 0, none⟩) 3 3, .int .i64 (1 + (q : Int)), .slice none 0 0, .int .i64 (2 + (s1 : Int)), .string ⟨#[]⟩, .int .i64 2, .string ⟨#[114, 111, 117, 116, 101, 115]⟩, .slice A2 n2 c2, .slice (some ⟨wC1.heap.size + 1 + 1, 0, none⟩) 4 4, .int .i64 2, .slice none 0 0, .int .i64 (3 + (s2 : Int)), .string ⟨#[]⟩, .int .i64 3, .string ⟨#[97, 99, 108]⟩, .slice A3 n3 c3, .slice (some ⟨wF2.heap.size + 1, 0, none⟩) 5 5, .int .i64 1, .slice none 0 0, .int .i64 (4 + (s3 : Int)), .string ⟨#[]⟩, .int .i64 4, .string ⟨#[115, 112, 97, 110, 115]⟩, .slice A4 n4 c4, .slice (some ⟨wF3.heap.size + 1, 0, none⟩) 3 3, .int .i64 3, .slice (some ⟨wF3.heap.size + 2, 0, none⟩) 1 1, .int .i64 (3 + (s4 : Int)), .string ⟨#[]⟩] 59)).alloc (.cells #[.string ⟨#[]⟩, .string ⟨#[97, 32, 33, 61, 32, 48]⟩, .string ⟨#[97, 32, 60, 32, 49, 52, 32, 38, 38, 32, 97, 32, 33, 61, 32, 51]⟩] 9)).alloc (.cells #[.string ⟨#[]⟩, .string ⟨#[100, 58, 58, 112, 114, 101, 102, 105, 120, 95, 108, 101, 110, 103, 116, 104, 32, 62, 61, 32, 56]⟩, .string ⟨#[100, 58, 58, 112, 114, 101, 102, 105, 120, 95, 108, 101, 110, 103, 116, 104, 32, 61, 61, 32, 51, 50, 32, 45, 62, 32, 100, 58, 58, 118, 97, 108, 117, 101, 32, 62, 32, 48, 120, 102, 102]⟩] 9)).alloc (.cells #[.string ⟨#[]⟩, .string ⟨#[112, 114, 105, 111, 114, 105, 116, 121, 32, 60, 32, 49, 48, 48, 32, 38, 38, 32, 40, 101, 58, 58, 109, 97, 115, 107, 32, 33, 61, 32, 48, 32, 124, 124, 32, 97, 58, 58, 109, 97, 115, 107, 32, 33, 61, 32, 48, 41]⟩, .string ⟨#[101, 58, 58, 109, 97, 115, 107, 32, 61, 61, 32, 48, 32, 45, 62, 32, 112, 114, 105, 111, 114, 105, 116, 121, 32, 62, 32, 53]⟩] 9)).alloc (.cells #[.string ⟨#[]⟩, .string ⟨#[102, 58, 58, 104, 105, 103, 104, 32, 45, 32, 102, 58, 58, 108, 111, 119, 32, 60, 61, 32, 48, 120, 49, 48, 48]⟩, .string ⟨#[33, 40, 102, 58, 58, 108, 111, 119, 32, 61, 61, 32, 48, 32, 38, 38, 32, 102, 58, 58, 104, 105, 103, 104, 32, 62, 32, 49, 48, 48, 48, 41]⟩] 9))) (by simp; omega) [.slice (some ⟨wF4.heap.size + 1, 0, none⟩) 3 3, .slice (some ⟨wF4.heap.size + 1 + 1, 0, none⟩) 3 3, .slice (some ⟨wF4.heap.size + 1 + 1 + 1, 0, none⟩) 3 3, .slice (some ⟨wF4.heap.size + 1 + 1 + 1 + 1, 0, none⟩) 3 3] 179)
          simpa only [World.size_alloc] using this
        have hL0 : TabL K D wF4.heap.size l ⟨tab1D q s1 [], .slice (some ⟨w.heap.size, 0, none⟩) 1 1, .slice (some ⟨w.heap.size + 1, 0, none⟩) 3 3, .slice none 0 0⟩ ⟨tab2D b2 s2 [], .slice A2 n2 c2, .slice (some ⟨wC1.heap.size + 1 + 1, 0, none⟩) 4 4, .slice none 0 0⟩ ⟨tab3D b3 s3 [], .slice A3 n3 c3, .slice (some ⟨wF2.heap.size + 1, 0, none⟩) 5 5, .slice none 0 0⟩ ⟨tab4D b4 s4 [], .slice A4 n4 c4, .slice (some ⟨wF3.heap.size + 1, 0, none⟩) 3 3, .slice (some ⟨wF3.heap.size + 2, 0, none⟩) 1 1⟩ (fun _ => 0) 0 w wF4 wT := by
          refine ⟨fun _ => by decide, fun _ _ => rfl, y0, fun j hj => ?_, fun j hj v hv => ?_, ⟨_, HCF4.out.kept gT (by simp) (by simp)⟩, HGF4.out.trans (grown_below gT), .of_grown gT (Nat.le_refl _) (fun k e => by cases e), by omega⟩
          · match j, hj with
            | 0, _ => exact y5.c 0 (by simp)
            | 1, _ => exact y5.c 1 (by simp)
            | 2, _ => exact y5.c 2 (by simp)
            | 3, _ => exact y5.c 3 (by simp)
          · match j, hj, v, hv with
            | 0, _, 0, _ => exact y1.c 0 (by simp)
            | 0, _, 1, _ => exact y1.c 1 (by simp)
            | 0, _, 2, _ => exact y1.c 2 (by simp)
            | 1, _, 0, _ => exact y2.c 0 (by simp)
            | 1, _, 1, _ => exact y2.c 1 (by simp)
            | 1, _, 2, _ => exact y2.c 2 (by simp)
            | 2, _, 0, _ => exact y3.c 0 (by simp)
            | 2, _, 1, _ => exact y3.c 1 (by simp)
            | 2, _, 2, _ => exact y3.c 2 (by simp)
            | 3, _, 0, _ => exact y4.c 0 (by simp)
            | 3, _, 1, _ => exact y4.c 1 (by simp)
            | 3, _, 2, _ => exact y4.c 2 (by simp)
        have HWT := Lib.hid hwT
        have HL0 := Lib.hid hL0
        have hwL := HGF4.out.size
        clear hwT hL0 gT zT y0 y1 y2 y3 y4 y5
        go_wp2_with fail
        rw [← HWT.out]
        go_loopw [81] (fun i W => ∃ k : Nat, k ≤ 4 ∧ i = .int .i64 k ∧ ∃ f, TabL K D wF4.heap.size l ⟨tab1D q s1 [], .slice (some ⟨w.heap.size, 0, none⟩) 1 1, .slice (some ⟨w.heap.size + 1, 0, none⟩) 3 3, .slice none 0 0⟩ ⟨tab2D b2 s2 [], .slice A2 n2 c2, .slice (some ⟨wC1.heap.size + 1 + 1, 0, none⟩) 4 4, .slice none 0 0⟩ ⟨tab3D b3 s3 [], .slice A3 n3 c3, .slice (some ⟨wF2.heap.size + 1, 0, none⟩) 5 5, .slice none 0 0⟩ ⟨tab4D b4 s4 [], .slice A4 n4 c4, .slice (some ⟨wF3.heap.size + 1, 0, none⟩) 3 3, .slice (some ⟨wF3.heap.size + 2, 0, none⟩) 1 1⟩ f k w wF4 W) (fun i _ => 4 - (intOf i).toNat)
        case atStart => exact ⟨0, by omega, rfl, _, HL0.out⟩
        case round =>
          obtain ⟨k, hk, rfl, f, hL⟩ := hrel
          by_cases hk4 : k < 4
          · have k1 : (k : Int) < 4 := by omega
            have k0 : 0 ≤ (k : Int) := by omega
            have HL := Lib.hid hL
            obtain ⟨pc, hc⟩ := hL.co
            have HCd := Lib.hid hc.drew
            have t0 := hL.tt k hk4
            have s0 := hL.ss k hk4
            have HS0 := Lib.hid s0
            clear hL hc s0
            go_wp2_with fail
            go_region_law (go_simp; go_at_call 30; ((with_reducible refine (nextz3 HCd.out).mono ?_); rintro e w2 ⟨v, hv, hvz, rfl, hg2, p2, h2⟩; have Hvz := Lib.hid hvz; clear hvz; have hg2' : wr.grownBy w2 (some K) := ⟨hg2.os, hg2.tape, hg2.output, hg2.size, hg2.block⟩; have hL2 := HL.out.chose hKw hwL hg2' h2; have t2 := hL2.tt k hk4; have s2 := hL2.ss k hk4 v hv; have o2 := hL2.box.c (k * 8 + 7) (by simp [flat, tabsAt, encTW]; omega); have f2 := hL2.box.f (k * 8 + 7); have a2 : (v : Int) < 3 := (by omega); have b2 : 0 ≤ (v : Int) := (by omega); have HL2 := Lib.hid hL2; have Hv := Lib.hid hv; clear hL2 hg2 hg2' h2 hv))
            all_goals go_wp2_with fail
            all_goals go_roundw
            all_goals first
              | exact ⟨k + 1, by omega, by simp, _, HL2.out.next hk4 Hv.out Hvz.out hKw hwL HDl.out⟩
              | (simp only [intOf]; omega)
              | (simp [intOf]; omega)
          · obtain rfl : k = 4 := by omega
            clear hk4
            have HL := Lib.hid hL
            clear hL
            rw [show ((4 : Nat) : Int) = 4 from rfl]
            go_wp2_with fail
            go_ret
            exact tabs_fin HBn2.out HBn3.out HBn4.out hwL rfl Hvq.out Hvs1.out Hvs2.out Hvs3.out Hvs4.out HTT1.out HTT2.out HTT3.out HTT4.out HL.out
end Go.Proofs.YtldgjahpmlafgaaGreat
