/- Contracts, joined: SRefA, SRefT, SRefO, SRefP. -/
import Derived.Test.YtljmiickhkkceaaJSRef
namespace Go.Proofs.Ytljmiickhkkceaa
/- The reference's writer: actions. -/
section
open Go.RowKit

section
variable {C X B : Nat} {w : World} {s : WS} {v : Value}
set_option maxRecDepth 100000 in
set_option maxHeartbeats 4000000 in
theorem rwaction_any (x : ActionD) (cs : List Value) (hx : ActionV C w cs x) (hC : C ≤ X) (hW : WrAt X B w s v) (hl : ((eAction wayR) x s).l.length ≤ 3800000) :
    Calls Try.prog 28 #[.pointer (some ⟨X, 0, none⟩), .agg cs.toArray] w (WroteR X B v ((eAction wayR) x s) w) := by
  obtain ⟨sv1, sv2, rfl, q3, q4, q5, q6, q7⟩ := hx
  have hr12 := q5
  obtain ⟨A8, n9, cap10, rfl, HN11, nc13, cm14, _⟩ := q5
  unfold maxLen at cm14
  have HR15 := Lib.hid hr12
  clear hr12
  have hr20 := q6
  obtain ⟨A16, n17, cap18, rfl, HN19, nc21, cm22, _⟩ := q6
  unfold maxLen at cm22
  have HR23 := Lib.hid hr20
  clear hr20
  have HW := Lib.hid hW
  have HG0 := Lib.hid (Gr.refl X v w)
  clear hW
  have Hb24 : (rText 400 x.restr (rList 12 ePrim x.body (rList 4 (eParam wayR) x.params (rText 24 x.name (wNum 2 x.id (s)))))).l.length ≤ 3800000 := hl
  have Hb25 : (rList 12 ePrim x.body (rList 4 (eParam wayR) x.params (rText 24 x.name (wNum 2 x.id (s))))).l.length ≤ 3800000 := Nat.le_trans ((up_rtext 400 x.restr) (rList 12 ePrim x.body (rList 4 (eParam wayR) x.params (rText 24 x.name (wNum 2 x.id (s)))))) Hb24
  have Hb26 : (rList 4 (eParam wayR) x.params (rText 24 x.name (wNum 2 x.id (s)))).l.length ≤ 3800000 := Nat.le_trans ((up_rlist 12 up_prim x.body) (rList 4 (eParam wayR) x.params (rText 24 x.name (wNum 2 x.id (s))))) Hb25
  have Hb27 : (rText 24 x.name (wNum 2 x.id (s))).l.length ≤ 3800000 := Nat.le_trans ((up_rlist 4 up_param x.params) (rText 24 x.name (wNum 2 x.id (s)))) Hb26
  have Hb28 : (wNum 2 x.id (s)).l.length ≤ 3800000 := Nat.le_trans ((up_rtext 24 x.name) (wNum 2 x.id (s))) Hb27
  have Hb29 : (s).l.length ≤ 3800000 := Nat.le_trans ((up_num 2 x.id) (s)) Hb28
  have HB30 := Lib.hid Hb29
  have HB31 := Lib.hid Hb28
  have HB32 := Lib.hid Hb27
  have HB33 := Lib.hid Hb26
  have HB34 := Lib.hid Hb25
  have HB35 := Lib.hid Hb24
  clear Hb29 Hb28 Hb27 Hb26 Hb25 Hb24
  clear hl
  obtain ⟨W36, hE37⟩ : ∃ W2, W2 = w.alloc (.cells #[.int .i64 x.id, .string (strL x.name), .slice A8 n9 cap10, .slice A16 n17 cap18, .string (strL x.restr)] 60) := ⟨_, rfl⟩
  have hbl39 : Below w.heap.size w W36 := by rw [hE37]; exact (Below.refl _ _).alloc (Nat.le_refl _) _
  have HV40 := Lib.hid (HW.out.below hbl39)
  have HG41 := Lib.hid (HG0.out.trans (Gr.of_below hbl39))
  have HL42 : Hid (Loc X w.heap.size v W36) := Lib.hid (by rw [hE37]; exact Loc.new HW.out _)
  have HB43 : Hid (∀ j (h : j < [.int .i64 x.id, .string (strL x.name), .slice A8 n9 cap10, .slice A16 n17 cap18, .string (strL x.restr)].length), W36.cell? ⟨w.heap.size, j, none⟩ = some ([.int .i64 x.id, .string (strL x.name), .slice A8 n9 cap10, .slice A16 n17 cap18, .string (strL x.restr)][j]'h)) := Lib.hid (by rw [hE37]; intro j h; rw [World.cell?_alloc_new, List.getElem?_toArray]; exact List.getElem?_eq_getElem h)
  have HE38 := Lib.hid hE37
  clear hE37 hbl39
  go_enter Try.func28, Try.ntmps28
  go_wp2_with fail
  rw [← HE38.out]
  refine (rwnum_any 2 (.inr rfl) x.id q3 HV40.out (by have := HB30.out; omega)).mono ?_
  rintro e w44 ⟨rfl, u45, hv46, hg47⟩
  have HV48 := Lib.hid hv46
  have HG49 := Lib.hid (HG41.out.trans hg47)
  obtain ⟨l50, c51⟩ := hg47.loc HL42.out
  have HL52 := Lib.hid l50
  have HB53 := Lib.hid (fun j (h : j < [.int .i64 x.id, .string (strL x.name), .slice A8 n9 cap10, .slice A16 n17 cap18, .string (strL x.restr)].length) => (c51 j).trans (HB43.out j h))
  clear l50 c51
  clear hv46 hg47
  have d54 : w44.cell? ⟨w.heap.size, 1, none⟩ = some (.string (strL x.name)) := HB53.out 1 (by simp)
  go_wp2_with fail
  refine (rwtext_any x.name 24 (by decide) q4 HV48.out (by have := HB31.out; omega)).mono ?_
  rintro e w55 ⟨rfl, u56, hv57, hg58⟩
  have HV59 := Lib.hid hv57
  have HG60 := Lib.hid (HG49.out.trans hg58)
  obtain ⟨l61, c62⟩ := hg58.loc HL52.out
  have HL63 := Lib.hid l61
  have HB64 := Lib.hid (fun j (h : j < [.int .i64 x.id, .string (strL x.name), .slice A8 n9 cap10, .slice A16 n17 cap18, .string (strL x.restr)].length) => (c62 j).trans (HB53.out j h))
  clear l61 c62
  clear hv57 hg58
  clear d54
  have d65 : w55.cell? ⟨w.heap.size, 2, none⟩ = some (.slice A8 n9 cap10) := HB64.out 2 (by simp)
  go_wp2_with fail
  refine (rwcount_any n9 4 (by omega) HV59.out (by have := HB32.out; omega)).mono ?_
  rintro e w66 ⟨rfl, u67, hv68, hg69⟩
  have HV70 := Lib.hid hv68
  have HG71 := Lib.hid (HG60.out.trans hg69)
  obtain ⟨l72, c73⟩ := hg69.loc HL63.out
  have HL74 := Lib.hid l72
  have HB75 := Lib.hid (fun j (h : j < [.int .i64 x.id, .string (strL x.name), .slice A8 n9 cap10, .slice A16 n17 cap18, .string (strL x.restr)].length) => (c73 j).trans (HB64.out j h))
  clear l72 c73
  clear hv68 hg69
  clear d65
  have d76 : w66.cell? ⟨w.heap.size, 2, none⟩ = some (.slice A8 n9 cap10) := HB75.out 2 (by simp)
  go_wp2_with fail
  clear d76
  have hb77 : ∀ q, q ≤ n9 → (runL (eParam wayR) x.params (rCount n9 4 (rText 24 x.name (wNum 2 x.id (s)))) q).l.length ≤ 3800000 := fun q hq => runL_bound up_param hq (by have h := HB33.out; rw [rList_run, ← HN11.out] at h; exact h)
  have HBq78 := Lib.hid hb77
  clear hb77
  have h0n9 : 0 ≤ (n9 : Int) := by omega
  go_loopw [24] (fun i W => ∃ q : Nat, q ≤ n9 ∧ i = .int .i64 q ∧ ∃ u, WrAt X B W (runL (eParam wayR) x.params (rCount n9 4 (rText 24 x.name (wNum 2 x.id (s)))) q) u ∧ Gr X v w u W ∧ Loc X w.heap.size u W ∧ (∀ j (h : j < [.int .i64 x.id, .string (strL x.name), .slice A8 n9 cap10, .slice A16 n17 cap18, .string (strL x.restr)].length), W.cell? ⟨w.heap.size, j, none⟩ = some ([.int .i64 x.id, .string (strL x.name), .slice A8 n9 cap10, .slice A16 n17 cap18, .string (strL x.restr)][j]'h))) (fun i _ => n9 - (intOf i).toNat)
  case atStart => exact ⟨0, by omega, rfl, u67, HV70.out, HG71.out, HL74.out, HB75.out⟩
  case round =>
    obtain ⟨W81, hw82⟩ : ∃ x, x = wr := ⟨wr, rfl⟩
    subst hw82
    obtain ⟨q79, hq85, rfl, u80, hV86, hG87, l83, b84⟩ := hrel
    have HV88 := Lib.hid hV86
    have HG89 := Lib.hid hG87
    clear hV86 hG87
    have HL90 := Lib.hid l83
    have HB91 := Lib.hid b84
    clear l83 b84
    by_cases hqnq79 : q79 < n9
    · have hqiq79 : (q79 : Int) < (n9 : Int) := by omega
      have hq0q79 : 0 ≤ (q79 : Int) := by omega
      obtain ⟨eb93, eo94, ar99, y92, hx95, hL96⟩ := row_at HR15.out (q := q79) (by have := HN11.out; omega)
      subst ar99
      obtain ⟨hlt100, _, hc97, ⟨rfl, q101, q102⟩⟩ := hL96
      have d103 : W81.cell? ⟨eb93, eo94 + q79 * 2, none⟩ = some (.string (strL y92.name)) := ((HG89.out.below HW.out hC).cell (p := ⟨eb93, eo94 + q79 * 2, none⟩) hlt100).trans (hc97 0 (by simp))
      have d104 : W81.cell? ⟨eb93, eo94 + q79 * 2 + 1, none⟩ = some (.int .i64 y92.bits) := ((HG89.out.below HW.out hC).cell (p := ⟨eb93, eo94 + q79 * 2 + 1, none⟩) hlt100).trans (hc97 1 (by simp))
      have HX98 := Lib.hid (runL_succ (eParam wayR) (rCount n9 4 (rText 24 x.name (wNum 2 x.id (s)))) hx95)
      clear hc97 hx95
      have hb105 := HBq78.out (q79 + 1) (by omega)
      rw [HX98.out] at hb105
      obtain ⟨W106, hE107⟩ : ∃ W2, W2 = W81.alloc (.cells #[.string (strL y92.name), .int .i64 y92.bits] 74) := ⟨_, rfl⟩
      have hbl109 : Below W81.heap.size W81 W106 := by rw [hE107]; exact (Below.refl _ _).alloc (Nat.le_refl _) _
      have HV110 := Lib.hid (HV88.out.below hbl109)
      have HG111 := Lib.hid (HG89.out.trans (Gr.of_below hbl109))
      have HL112 : Hid (Loc X W81.heap.size u80 W106) := Lib.hid (by rw [hE107]; exact Loc.new HV88.out _)
      have HB113 : Hid (∀ j (h : j < [.string (strL y92.name), .int .i64 y92.bits].length), W106.cell? ⟨W81.heap.size, j, none⟩ = some ([.string (strL y92.name), .int .i64 y92.bits][j]'h)) := Lib.hid (by rw [hE107]; intro j h; rw [World.cell?_alloc_new, List.getElem?_toArray]; exact List.getElem?_eq_getElem h)
      have HL114 : Hid (Loc X w.heap.size u80 W106) := Lib.hid ((Gr.of_below (X := X) (v := u80) hbl109).loc HL90.out).1
      have HB115 := Lib.hid (fun j (h : j < [.int .i64 x.id, .string (strL x.name), .slice (some ⟨eb93, eo94, none⟩) n9 cap10, .slice A16 n17 cap18, .string (strL x.restr)].length) => (((Gr.of_below (X := X) (v := u80) hbl109).loc HL90.out).2 j).trans (HB91.out j h))
      have HE108 := Lib.hid hE107
      clear hE107 hbl109
      have Hb116 : (wNum 1 y92.bits (rText 24 y92.name (runL (eParam wayR) x.params (rCount n9 4 (rText 24 x.name (wNum 2 x.id (s)))) q79))).l.length ≤ 3800000 := hb105
      have Hb117 : (rText 24 y92.name (runL (eParam wayR) x.params (rCount n9 4 (rText 24 x.name (wNum 2 x.id (s)))) q79)).l.length ≤ 3800000 := Nat.le_trans ((up_num 1 y92.bits) (rText 24 y92.name (runL (eParam wayR) x.params (rCount n9 4 (rText 24 x.name (wNum 2 x.id (s)))) q79))) Hb116
      have Hb118 : (runL (eParam wayR) x.params (rCount n9 4 (rText 24 x.name (wNum 2 x.id (s)))) q79).l.length ≤ 3800000 := Nat.le_trans ((up_rtext 24 y92.name) (runL (eParam wayR) x.params (rCount n9 4 (rText 24 x.name (wNum 2 x.id (s)))) q79)) Hb117
      have HB119 := Lib.hid Hb118
      have HB120 := Lib.hid Hb117
      have HB121 := Lib.hid Hb116
      clear Hb118 Hb117 Hb116
      clear hb105
      go_wp2_with fail
      rw [← HE108.out]
      refine (rwtext_any y92.name 24 (by decide) q101 HV110.out (by have := HB119.out; omega)).mono ?_
      rintro e w122 ⟨rfl, u123, hv124, hg125⟩
      have HV126 := Lib.hid hv124
      have HG127 := Lib.hid (HG111.out.trans hg125)
      obtain ⟨l128, c129⟩ := hg125.loc HL114.out
      have HL130 := Lib.hid l128
      have HB131 := Lib.hid (fun j (h : j < [.int .i64 x.id, .string (strL x.name), .slice (some ⟨eb93, eo94, none⟩) n9 cap10, .slice A16 n17 cap18, .string (strL x.restr)].length) => (c129 j).trans (HB115.out j h))
      clear l128 c129
      obtain ⟨l132, c133⟩ := hg125.loc HL112.out
      have HL134 := Lib.hid l132
      have HB135 := Lib.hid (fun j (h : j < [.string (strL y92.name), .int .i64 y92.bits].length) => (c133 j).trans (HB113.out j h))
      clear l132 c133
      clear hv124 hg125
      have d136 : w122.cell? ⟨W81.heap.size, 1, none⟩ = some (.int .i64 y92.bits) := HB135.out 1 (by simp)
      go_wp2_with fail
      refine (rwnum_any 1 (.inl rfl) y92.bits q102 HV126.out (by have := HB120.out; omega)).mono ?_
      rintro e w137 ⟨rfl, u138, hv139, hg140⟩
      have HV141 := Lib.hid hv139
      have HG142 := Lib.hid (HG127.out.trans hg140)
      obtain ⟨l143, c144⟩ := hg140.loc HL130.out
      have HL145 := Lib.hid l143
      have HB146 := Lib.hid (fun j (h : j < [.int .i64 x.id, .string (strL x.name), .slice (some ⟨eb93, eo94, none⟩) n9 cap10, .slice A16 n17 cap18, .string (strL x.restr)].length) => (c144 j).trans (HB131.out j h))
      clear l143 c144
      obtain ⟨l147, c148⟩ := hg140.loc HL134.out
      have HL149 := Lib.hid l147
      have HB150 := Lib.hid (fun j (h : j < [.string (strL y92.name), .int .i64 y92.bits].length) => (c148 j).trans (HB135.out j h))
      clear l147 c148
      clear hv139 hg140
      clear d136
      go_wp2_with fail
      go_roundw
      case rel => exact ⟨q79 + 1, by omega, by simp, u138, by rw [HX98.out]; exact HV141.out, HG142.out, HL145.out, HB146.out⟩
      case measure => simp [intOf]; omega
    · obtain rfl : n9 = q79 := by omega
      have HV151 : Hid (WrAt X B W81 (rList 4 (eParam wayR) x.params (rText 24 x.name (wNum 2 x.id (s)))) u80) := Lib.hid (by rw [rList_run, ← HN11.out]; exact HV88.out)
      have d152 : W81.cell? ⟨w.heap.size, 3, none⟩ = some (.slice A16 n17 cap18) := HB91.out 3 (by simp)
      go_wp2_with fail
      refine (rwcount_any n17 12 (by omega) HV151.out (by have := HB33.out; omega)).mono ?_
      rintro e w153 ⟨rfl, u154, hv155, hg156⟩
      have HV157 := Lib.hid hv155
      have HG158 := Lib.hid (HG89.out.trans hg156)
      obtain ⟨l159, c160⟩ := hg156.loc HL90.out
      have HL161 := Lib.hid l159
      have HB162 := Lib.hid (fun j (h : j < [.int .i64 x.id, .string (strL x.name), .slice A8 n9 cap10, .slice A16 n17 cap18, .string (strL x.restr)].length) => (c160 j).trans (HB91.out j h))
      clear l159 c160
      clear hv155 hg156
      clear d152
      have d163 : w153.cell? ⟨w.heap.size, 3, none⟩ = some (.slice A16 n17 cap18) := HB162.out 3 (by simp)
      go_wp2_with fail
      clear d163
      have hb164 : ∀ q, q ≤ n17 → (runL ePrim x.body (rCount n17 12 (rList 4 (eParam wayR) x.params (rText 24 x.name (wNum 2 x.id (s))))) q).l.length ≤ 3800000 := fun q hq => runL_bound up_prim hq (by have h := HB34.out; rw [rList_run, ← HN19.out] at h; exact h)
      have HBq165 := Lib.hid hb164
      clear hb164
      have h0n17 : 0 ≤ (n17 : Int) := by omega
      go_loopw [45] (fun i W => ∃ q : Nat, q ≤ n17 ∧ i = .int .i64 q ∧ ∃ u, WrAt X B W (runL ePrim x.body (rCount n17 12 (rList 4 (eParam wayR) x.params (rText 24 x.name (wNum 2 x.id (s))))) q) u ∧ Gr X v w u W ∧ Loc X w.heap.size u W ∧ (∀ j (h : j < [.int .i64 x.id, .string (strL x.name), .slice A8 n9 cap10, .slice A16 n17 cap18, .string (strL x.restr)].length), W.cell? ⟨w.heap.size, j, none⟩ = some ([.int .i64 x.id, .string (strL x.name), .slice A8 n9 cap10, .slice A16 n17 cap18, .string (strL x.restr)][j]'h))) (fun i _ => n17 - (intOf i).toNat)
      case atStart => exact ⟨0, by omega, rfl, u154, HV157.out, HG158.out, HL161.out, HB162.out⟩
      case round =>
        obtain ⟨W168, hw169⟩ : ∃ x, x = wr := ⟨wr, rfl⟩
        subst hw169
        obtain ⟨q166, hq172, rfl, u167, hV173, hG174, l170, b171⟩ := hrel
        have HV175 := Lib.hid hV173
        have HG176 := Lib.hid hG174
        clear hV173 hG174
        have HL177 := Lib.hid l170
        have HB178 := Lib.hid b171
        clear l170 b171
        by_cases hqnq166 : q166 < n17
        · have hqiq166 : (q166 : Int) < (n17 : Int) := by omega
          have hq0q166 : 0 ≤ (q166 : Int) := by omega
          obtain ⟨eb180, eo181, ar186, y179, hx182, hL183⟩ := row_at HR23.out (q := q166) (by have := HN19.out; omega)
          subst ar186
          obtain ⟨hlt187, _, hc184, ⟨rfl, q188, q189, q190, q191, q192⟩⟩ := hL183
          have d193 : W168.cell? ⟨eb180, eo181 + q166 * 6, none⟩ = some (.int .i64 y179.op) := ((HG176.out.below HW.out hC).cell (p := ⟨eb180, eo181 + q166 * 6, none⟩) hlt187).trans (hc184 0 (by simp))
          have d194 : W168.cell? ⟨eb180, eo181 + q166 * 6 + 1, none⟩ = some (.int .i64 y179.dst) := ((HG176.out.below HW.out hC).cell (p := ⟨eb180, eo181 + q166 * 6 + 1, none⟩) hlt187).trans (hc184 1 (by simp))
          have d195 : W168.cell? ⟨eb180, eo181 + q166 * 6 + 2, none⟩ = some (.int .i64 y179.kind) := ((HG176.out.below HW.out hC).cell (p := ⟨eb180, eo181 + q166 * 6 + 2, none⟩) hlt187).trans (hc184 2 (by simp))
          have d196 : W168.cell? ⟨eb180, eo181 + q166 * 6 + 3, none⟩ = some (.int .i64 y179.n) := ((HG176.out.below HW.out hC).cell (p := ⟨eb180, eo181 + q166 * 6 + 3, none⟩) hlt187).trans (hc184 3 (by simp))
          have d197 : W168.cell? ⟨eb180, eo181 + q166 * 6 + 4, none⟩ = some (.int .u64 (hi y179.val)) := ((HG176.out.below HW.out hC).cell (p := ⟨eb180, eo181 + q166 * 6 + 4, none⟩) hlt187).trans (hc184 4 (by simp))
          have d198 : W168.cell? ⟨eb180, eo181 + q166 * 6 + 5, none⟩ = some (.int .u64 (lo y179.val)) := ((HG176.out.below HW.out hC).cell (p := ⟨eb180, eo181 + q166 * 6 + 5, none⟩) hlt187).trans (hc184 5 (by simp))
          have HX185 := Lib.hid (runL_succ ePrim (rCount n17 12 (rList 4 (eParam wayR) x.params (rText 24 x.name (wNum 2 x.id (s))))) hx182)
          clear hc184 hx182
          have hb199 := HBq165.out (q166 + 1) (by omega)
          rw [HX185.out] at hb199
          obtain ⟨W200, hE201⟩ : ∃ W2, W2 = W168.alloc (.cells #[.int .i64 y179.op, .int .i64 y179.dst, .int .i64 y179.kind, .int .i64 y179.n, .int .u64 (hi y179.val), .int .u64 (lo y179.val)] 84) := ⟨_, rfl⟩
          have hbl203 : Below W168.heap.size W168 W200 := by rw [hE201]; exact (Below.refl _ _).alloc (Nat.le_refl _) _
          have HV204 := Lib.hid (HV175.out.below hbl203)
          have HG205 := Lib.hid (HG176.out.trans (Gr.of_below hbl203))
          have HL206 : Hid (Loc X W168.heap.size u167 W200) := Lib.hid (by rw [hE201]; exact Loc.new HV175.out _)
          have HB207 : Hid (∀ j (h : j < [.int .i64 y179.op, .int .i64 y179.dst, .int .i64 y179.kind, .int .i64 y179.n, .int .u64 (hi y179.val), .int .u64 (lo y179.val)].length), W200.cell? ⟨W168.heap.size, j, none⟩ = some ([.int .i64 y179.op, .int .i64 y179.dst, .int .i64 y179.kind, .int .i64 y179.n, .int .u64 (hi y179.val), .int .u64 (lo y179.val)][j]'h)) := Lib.hid (by rw [hE201]; intro j h; rw [World.cell?_alloc_new, List.getElem?_toArray]; exact List.getElem?_eq_getElem h)
          have HL208 : Hid (Loc X w.heap.size u167 W200) := Lib.hid ((Gr.of_below (X := X) (v := u167) hbl203).loc HL177.out).1
          have HB209 := Lib.hid (fun j (h : j < [.int .i64 x.id, .string (strL x.name), .slice A8 n9 cap10, .slice (some ⟨eb180, eo181, none⟩) n17 cap18, .string (strL x.restr)].length) => (((Gr.of_below (X := X) (v := u167) hbl203).loc HL177.out).2 j).trans (HB178.out j h))
          have HE202 := Lib.hid hE201
          clear hE201 hbl203
          have Hb210 : (wVal y179.val (wNum 2 y179.n (wNum 1 y179.kind (wNum 2 y179.dst (wNum 1 y179.op (runL ePrim x.body (rCount n17 12 (rList 4 (eParam wayR) x.params (rText 24 x.name (wNum 2 x.id (s))))) q166)))))).l.length ≤ 3800000 := hb199
          have Hb211 : (wNum 2 y179.n (wNum 1 y179.kind (wNum 2 y179.dst (wNum 1 y179.op (runL ePrim x.body (rCount n17 12 (rList 4 (eParam wayR) x.params (rText 24 x.name (wNum 2 x.id (s))))) q166))))).l.length ≤ 3800000 := Nat.le_trans ((up_val y179.val) (wNum 2 y179.n (wNum 1 y179.kind (wNum 2 y179.dst (wNum 1 y179.op (runL ePrim x.body (rCount n17 12 (rList 4 (eParam wayR) x.params (rText 24 x.name (wNum 2 x.id (s))))) q166)))))) Hb210
          have Hb212 : (wNum 1 y179.kind (wNum 2 y179.dst (wNum 1 y179.op (runL ePrim x.body (rCount n17 12 (rList 4 (eParam wayR) x.params (rText 24 x.name (wNum 2 x.id (s))))) q166)))).l.length ≤ 3800000 := Nat.le_trans ((up_num 2 y179.n) (wNum 1 y179.kind (wNum 2 y179.dst (wNum 1 y179.op (runL ePrim x.body (rCount n17 12 (rList 4 (eParam wayR) x.params (rText 24 x.name (wNum 2 x.id (s))))) q166))))) Hb211
          have Hb213 : (wNum 2 y179.dst (wNum 1 y179.op (runL ePrim x.body (rCount n17 12 (rList 4 (eParam wayR) x.params (rText 24 x.name (wNum 2 x.id (s))))) q166))).l.length ≤ 3800000 := Nat.le_trans ((up_num 1 y179.kind) (wNum 2 y179.dst (wNum 1 y179.op (runL ePrim x.body (rCount n17 12 (rList 4 (eParam wayR) x.params (rText 24 x.name (wNum 2 x.id (s))))) q166)))) Hb212
          have Hb214 : (wNum 1 y179.op (runL ePrim x.body (rCount n17 12 (rList 4 (eParam wayR) x.params (rText 24 x.name (wNum 2 x.id (s))))) q166)).l.length ≤ 3800000 := Nat.le_trans ((up_num 2 y179.dst) (wNum 1 y179.op (runL ePrim x.body (rCount n17 12 (rList 4 (eParam wayR) x.params (rText 24 x.name (wNum 2 x.id (s))))) q166))) Hb213
          have Hb215 : (runL ePrim x.body (rCount n17 12 (rList 4 (eParam wayR) x.params (rText 24 x.name (wNum 2 x.id (s))))) q166).l.length ≤ 3800000 := Nat.le_trans ((up_num 1 y179.op) (runL ePrim x.body (rCount n17 12 (rList 4 (eParam wayR) x.params (rText 24 x.name (wNum 2 x.id (s))))) q166)) Hb214
          have HB216 := Lib.hid Hb215
          have HB217 := Lib.hid Hb214
          have HB218 := Lib.hid Hb213
          have HB219 := Lib.hid Hb212
          have HB220 := Lib.hid Hb211
          have HB221 := Lib.hid Hb210
          clear Hb215 Hb214 Hb213 Hb212 Hb211 Hb210
          clear hb199
          go_wp2_with fail
          rw [← HE202.out]
          refine (rwnum_any 1 (.inl rfl) y179.op q188 HV204.out (by have := HB216.out; omega)).mono ?_
          rintro e w222 ⟨rfl, u223, hv224, hg225⟩
          have HV226 := Lib.hid hv224
          have HG227 := Lib.hid (HG205.out.trans hg225)
          obtain ⟨l228, c229⟩ := hg225.loc HL208.out
          have HL230 := Lib.hid l228
          have HB231 := Lib.hid (fun j (h : j < [.int .i64 x.id, .string (strL x.name), .slice A8 n9 cap10, .slice (some ⟨eb180, eo181, none⟩) n17 cap18, .string (strL x.restr)].length) => (c229 j).trans (HB209.out j h))
          clear l228 c229
          obtain ⟨l232, c233⟩ := hg225.loc HL206.out
          have HL234 := Lib.hid l232
          have HB235 := Lib.hid (fun j (h : j < [.int .i64 y179.op, .int .i64 y179.dst, .int .i64 y179.kind, .int .i64 y179.n, .int .u64 (hi y179.val), .int .u64 (lo y179.val)].length) => (c233 j).trans (HB207.out j h))
          clear l232 c233
          clear hv224 hg225
          have d236 : w222.cell? ⟨W168.heap.size, 1, none⟩ = some (.int .i64 y179.dst) := HB235.out 1 (by simp)
          go_wp2_with fail
          refine (rwnum_any 2 (.inr rfl) y179.dst q189 HV226.out (by have := HB217.out; omega)).mono ?_
          rintro e w237 ⟨rfl, u238, hv239, hg240⟩
          have HV241 := Lib.hid hv239
          have HG242 := Lib.hid (HG227.out.trans hg240)
          obtain ⟨l243, c244⟩ := hg240.loc HL230.out
          have HL245 := Lib.hid l243
          have HB246 := Lib.hid (fun j (h : j < [.int .i64 x.id, .string (strL x.name), .slice A8 n9 cap10, .slice (some ⟨eb180, eo181, none⟩) n17 cap18, .string (strL x.restr)].length) => (c244 j).trans (HB231.out j h))
          clear l243 c244
          obtain ⟨l247, c248⟩ := hg240.loc HL234.out
          have HL249 := Lib.hid l247
          have HB250 := Lib.hid (fun j (h : j < [.int .i64 y179.op, .int .i64 y179.dst, .int .i64 y179.kind, .int .i64 y179.n, .int .u64 (hi y179.val), .int .u64 (lo y179.val)].length) => (c248 j).trans (HB235.out j h))
          clear l247 c248
          clear hv239 hg240
          clear d236
          have d251 : w237.cell? ⟨W168.heap.size, 2, none⟩ = some (.int .i64 y179.kind) := HB250.out 2 (by simp)
          go_wp2_with fail
          refine (rwnum_any 1 (.inl rfl) y179.kind q190 HV241.out (by have := HB218.out; omega)).mono ?_
          rintro e w252 ⟨rfl, u253, hv254, hg255⟩
          have HV256 := Lib.hid hv254
          have HG257 := Lib.hid (HG242.out.trans hg255)
          obtain ⟨l258, c259⟩ := hg255.loc HL245.out
          have HL260 := Lib.hid l258
          have HB261 := Lib.hid (fun j (h : j < [.int .i64 x.id, .string (strL x.name), .slice A8 n9 cap10, .slice (some ⟨eb180, eo181, none⟩) n17 cap18, .string (strL x.restr)].length) => (c259 j).trans (HB246.out j h))
          clear l258 c259
          obtain ⟨l262, c263⟩ := hg255.loc HL249.out
          have HL264 := Lib.hid l262
          have HB265 := Lib.hid (fun j (h : j < [.int .i64 y179.op, .int .i64 y179.dst, .int .i64 y179.kind, .int .i64 y179.n, .int .u64 (hi y179.val), .int .u64 (lo y179.val)].length) => (c263 j).trans (HB250.out j h))
          clear l262 c263
          clear hv254 hg255
          clear d251
          have d266 : w252.cell? ⟨W168.heap.size, 3, none⟩ = some (.int .i64 y179.n) := HB265.out 3 (by simp)
          go_wp2_with fail
          refine (rwnum_any 2 (.inr rfl) y179.n q191 HV256.out (by have := HB219.out; omega)).mono ?_
          rintro e w267 ⟨rfl, u268, hv269, hg270⟩
          have HV271 := Lib.hid hv269
          have HG272 := Lib.hid (HG257.out.trans hg270)
          obtain ⟨l273, c274⟩ := hg270.loc HL260.out
          have HL275 := Lib.hid l273
          have HB276 := Lib.hid (fun j (h : j < [.int .i64 x.id, .string (strL x.name), .slice A8 n9 cap10, .slice (some ⟨eb180, eo181, none⟩) n17 cap18, .string (strL x.restr)].length) => (c274 j).trans (HB261.out j h))
          clear l273 c274
          obtain ⟨l277, c278⟩ := hg270.loc HL264.out
          have HL279 := Lib.hid l277
          have HB280 := Lib.hid (fun j (h : j < [.int .i64 y179.op, .int .i64 y179.dst, .int .i64 y179.kind, .int .i64 y179.n, .int .u64 (hi y179.val), .int .u64 (lo y179.val)].length) => (c278 j).trans (HB265.out j h))
          clear l277 c278
          clear hv269 hg270
          clear d266
          have d281 : w267.cell? ⟨W168.heap.size, 4, none⟩ = some (.int .u64 (hi y179.val)) := HB280.out 4 (by simp)
          have d282 : w267.cell? ⟨W168.heap.size, 5, none⟩ = some (.int .u64 (lo y179.val)) := HB280.out 5 (by simp)
          go_wp2_with fail
          refine (rwval_any y179.val q192 HV271.out (by have := HB220.out; omega)).mono ?_
          rintro e w283 ⟨rfl, u284, hv285, hg286⟩
          have HV287 := Lib.hid hv285
          have HG288 := Lib.hid (HG272.out.trans hg286)
          obtain ⟨l289, c290⟩ := hg286.loc HL275.out
          have HL291 := Lib.hid l289
          have HB292 := Lib.hid (fun j (h : j < [.int .i64 x.id, .string (strL x.name), .slice A8 n9 cap10, .slice (some ⟨eb180, eo181, none⟩) n17 cap18, .string (strL x.restr)].length) => (c290 j).trans (HB276.out j h))
          clear l289 c290
          obtain ⟨l293, c294⟩ := hg286.loc HL279.out
          have HL295 := Lib.hid l293
          have HB296 := Lib.hid (fun j (h : j < [.int .i64 y179.op, .int .i64 y179.dst, .int .i64 y179.kind, .int .i64 y179.n, .int .u64 (hi y179.val), .int .u64 (lo y179.val)].length) => (c294 j).trans (HB280.out j h))
          clear l293 c294
          clear hv285 hg286
          clear d281 d282
          go_wp2_with fail
          go_roundw
          case rel => exact ⟨q166 + 1, by omega, by simp, u284, by rw [HX185.out]; exact HV287.out, HG288.out, HL291.out, HB292.out⟩
          case measure => simp [intOf]; omega
        · obtain rfl : n17 = q166 := by omega
          have HV297 : Hid (WrAt X B W168 (rList 12 ePrim x.body (rList 4 (eParam wayR) x.params (rText 24 x.name (wNum 2 x.id (s))))) u167) := Lib.hid (by rw [rList_run, ← HN19.out]; exact HV175.out)
          have d298 : W168.cell? ⟨w.heap.size, 4, none⟩ = some (.string (strL x.restr)) := HB178.out 4 (by simp)
          go_wp2_with fail
          refine (rwtext_any x.restr 400 (by decide) q7 HV297.out (by have := HB34.out; omega)).mono ?_
          rintro e w299 ⟨rfl, u300, hv301, hg302⟩
          have HV303 := Lib.hid hv301
          have HG304 := Lib.hid (HG176.out.trans hg302)
          obtain ⟨l305, c306⟩ := hg302.loc HL177.out
          have HL307 := Lib.hid l305
          have HB308 := Lib.hid (fun j (h : j < [.int .i64 x.id, .string (strL x.name), .slice A8 n9 cap10, .slice A16 n17 cap18, .string (strL x.restr)].length) => (c306 j).trans (HB178.out j h))
          clear l305 c306
          clear hv301 hg302
          clear d298
          go_wp2_with fail
          go_end0
          exact ⟨rfl, u300, HV303.out, HG304.out⟩
end
end
/- The reference's writer: tables. -/
section
open Go.RowKit

section
variable {C X B : Nat} {w : World} {s : WS} {v : Value}
set_option maxRecDepth 100000 in
set_option maxHeartbeats 4000000 in
theorem rwtable_any (x : TableD) (cs : List Value) (hx : TableV C w cs x) (hC : C ≤ X) (hW : WrAt X B w s v) (hl : ((eTable wayR) x s).l.length ≤ 3800000) :
    Calls Try.prog 29 #[.pointer (some ⟨X, 0, none⟩), .agg cs.toArray] w (WroteR X B v ((eTable wayR) x s) w) := by
  obtain ⟨sv1, sv2, sv3, rfl, q4, q5, q6, q7, q8, q9, q10, q11⟩ := hx
  have hr16 := q6
  obtain ⟨A12, n13, cap14, rfl, HN15, nc17, cm18, _⟩ := q6
  unfold maxLen at cm18
  have HR19 := Lib.hid hr16
  clear hr16
  have hr24 := q7
  obtain ⟨A20, n21, cap22, rfl, HN23, nc25, cm26, _⟩ := q7
  unfold maxLen at cm26
  have HR27 := Lib.hid hr24
  clear hr24
  have hr32 := q9
  obtain ⟨A28, n29, cap30, rfl, HN31, nc33, cm34, _⟩ := q9
  unfold maxLen at cm34
  have HR35 := Lib.hid hr32
  clear hr32
  have HW := Lib.hid hW
  have HG0 := Lib.hid (Gr.refl X v w)
  clear hW
  have Hb36 : (rText 400 x.restr (wNum 2 x.size (rList 4 wVal x.args (wNum 2 x.dflt (rList 12 (wNum 2) x.actions (rList 4 (eKey wayR) x.keys (rText 24 x.name (wNum 2 x.id (s))))))))).l.length ≤ 3800000 := hl
  have Hb37 : (wNum 2 x.size (rList 4 wVal x.args (wNum 2 x.dflt (rList 12 (wNum 2) x.actions (rList 4 (eKey wayR) x.keys (rText 24 x.name (wNum 2 x.id (s)))))))).l.length ≤ 3800000 := Nat.le_trans ((up_rtext 400 x.restr) (wNum 2 x.size (rList 4 wVal x.args (wNum 2 x.dflt (rList 12 (wNum 2) x.actions (rList 4 (eKey wayR) x.keys (rText 24 x.name (wNum 2 x.id (s))))))))) Hb36
  have Hb38 : (rList 4 wVal x.args (wNum 2 x.dflt (rList 12 (wNum 2) x.actions (rList 4 (eKey wayR) x.keys (rText 24 x.name (wNum 2 x.id (s))))))).l.length ≤ 3800000 := Nat.le_trans ((up_num 2 x.size) (rList 4 wVal x.args (wNum 2 x.dflt (rList 12 (wNum 2) x.actions (rList 4 (eKey wayR) x.keys (rText 24 x.name (wNum 2 x.id (s)))))))) Hb37
  have Hb39 : (wNum 2 x.dflt (rList 12 (wNum 2) x.actions (rList 4 (eKey wayR) x.keys (rText 24 x.name (wNum 2 x.id (s)))))).l.length ≤ 3800000 := Nat.le_trans ((up_rlist 4 up_val x.args) (wNum 2 x.dflt (rList 12 (wNum 2) x.actions (rList 4 (eKey wayR) x.keys (rText 24 x.name (wNum 2 x.id (s))))))) Hb38
  have Hb40 : (rList 12 (wNum 2) x.actions (rList 4 (eKey wayR) x.keys (rText 24 x.name (wNum 2 x.id (s))))).l.length ≤ 3800000 := Nat.le_trans ((up_num 2 x.dflt) (rList 12 (wNum 2) x.actions (rList 4 (eKey wayR) x.keys (rText 24 x.name (wNum 2 x.id (s)))))) Hb39
  have Hb41 : (rList 4 (eKey wayR) x.keys (rText 24 x.name (wNum 2 x.id (s)))).l.length ≤ 3800000 := Nat.le_trans ((up_rlist 12 (up_num 2) x.actions) (rList 4 (eKey wayR) x.keys (rText 24 x.name (wNum 2 x.id (s))))) Hb40
  have Hb42 : (rText 24 x.name (wNum 2 x.id (s))).l.length ≤ 3800000 := Nat.le_trans ((up_rlist 4 up_key x.keys) (rText 24 x.name (wNum 2 x.id (s)))) Hb41
  have Hb43 : (wNum 2 x.id (s)).l.length ≤ 3800000 := Nat.le_trans ((up_rtext 24 x.name) (wNum 2 x.id (s))) Hb42
  have Hb44 : (s).l.length ≤ 3800000 := Nat.le_trans ((up_num 2 x.id) (s)) Hb43
  have HB45 := Lib.hid Hb44
  have HB46 := Lib.hid Hb43
  have HB47 := Lib.hid Hb42
  have HB48 := Lib.hid Hb41
  have HB49 := Lib.hid Hb40
  have HB50 := Lib.hid Hb39
  have HB51 := Lib.hid Hb38
  have HB52 := Lib.hid Hb37
  have HB53 := Lib.hid Hb36
  clear Hb44 Hb43 Hb42 Hb41 Hb40 Hb39 Hb38 Hb37 Hb36
  clear hl
  obtain ⟨W54, hE55⟩ : ∃ W2, W2 = w.alloc (.cells #[.int .i64 x.id, .string (strL x.name), .slice A12 n13 cap14, .slice A20 n21 cap22, .int .i64 x.dflt, .slice A28 n29 cap30, .int .i64 x.size, .string (strL x.restr)] 53) := ⟨_, rfl⟩
  have hbl57 : Below w.heap.size w W54 := by rw [hE55]; exact (Below.refl _ _).alloc (Nat.le_refl _) _
  have HV58 := Lib.hid (HW.out.below hbl57)
  have HG59 := Lib.hid (HG0.out.trans (Gr.of_below hbl57))
  have HL60 : Hid (Loc X w.heap.size v W54) := Lib.hid (by rw [hE55]; exact Loc.new HW.out _)
  have HB61 : Hid (∀ j (h : j < [.int .i64 x.id, .string (strL x.name), .slice A12 n13 cap14, .slice A20 n21 cap22, .int .i64 x.dflt, .slice A28 n29 cap30, .int .i64 x.size, .string (strL x.restr)].length), W54.cell? ⟨w.heap.size, j, none⟩ = some ([.int .i64 x.id, .string (strL x.name), .slice A12 n13 cap14, .slice A20 n21 cap22, .int .i64 x.dflt, .slice A28 n29 cap30, .int .i64 x.size, .string (strL x.restr)][j]'h)) := Lib.hid (by rw [hE55]; intro j h; rw [World.cell?_alloc_new, List.getElem?_toArray]; exact List.getElem?_eq_getElem h)
  have HE56 := Lib.hid hE55
  clear hE55 hbl57
  go_enter Try.func29, Try.ntmps29
  go_wp2_with fail
  rw [← HE56.out]
  refine (rwnum_any 2 (.inr rfl) x.id q4 HV58.out (by have := HB45.out; omega)).mono ?_
  rintro e w62 ⟨rfl, u63, hv64, hg65⟩
  have HV66 := Lib.hid hv64
  have HG67 := Lib.hid (HG59.out.trans hg65)
  obtain ⟨l68, c69⟩ := hg65.loc HL60.out
  have HL70 := Lib.hid l68
  have HB71 := Lib.hid (fun j (h : j < [.int .i64 x.id, .string (strL x.name), .slice A12 n13 cap14, .slice A20 n21 cap22, .int .i64 x.dflt, .slice A28 n29 cap30, .int .i64 x.size, .string (strL x.restr)].length) => (c69 j).trans (HB61.out j h))
  clear l68 c69
  clear hv64 hg65
  have d72 : w62.cell? ⟨w.heap.size, 1, none⟩ = some (.string (strL x.name)) := HB71.out 1 (by simp)
  go_wp2_with fail
  refine (rwtext_any x.name 24 (by decide) q5 HV66.out (by have := HB46.out; omega)).mono ?_
  rintro e w73 ⟨rfl, u74, hv75, hg76⟩
  have HV77 := Lib.hid hv75
  have HG78 := Lib.hid (HG67.out.trans hg76)
  obtain ⟨l79, c80⟩ := hg76.loc HL70.out
  have HL81 := Lib.hid l79
  have HB82 := Lib.hid (fun j (h : j < [.int .i64 x.id, .string (strL x.name), .slice A12 n13 cap14, .slice A20 n21 cap22, .int .i64 x.dflt, .slice A28 n29 cap30, .int .i64 x.size, .string (strL x.restr)].length) => (c80 j).trans (HB71.out j h))
  clear l79 c80
  clear hv75 hg76
  clear d72
  have d83 : w73.cell? ⟨w.heap.size, 2, none⟩ = some (.slice A12 n13 cap14) := HB82.out 2 (by simp)
  go_wp2_with fail
  refine (rwcount_any n13 4 (by omega) HV77.out (by have := HB47.out; omega)).mono ?_
  rintro e w84 ⟨rfl, u85, hv86, hg87⟩
  have HV88 := Lib.hid hv86
  have HG89 := Lib.hid (HG78.out.trans hg87)
  obtain ⟨l90, c91⟩ := hg87.loc HL81.out
  have HL92 := Lib.hid l90
  have HB93 := Lib.hid (fun j (h : j < [.int .i64 x.id, .string (strL x.name), .slice A12 n13 cap14, .slice A20 n21 cap22, .int .i64 x.dflt, .slice A28 n29 cap30, .int .i64 x.size, .string (strL x.restr)].length) => (c91 j).trans (HB82.out j h))
  clear l90 c91
  clear hv86 hg87
  clear d83
  have d94 : w84.cell? ⟨w.heap.size, 2, none⟩ = some (.slice A12 n13 cap14) := HB93.out 2 (by simp)
  go_wp2_with fail
  clear d94
  have hb95 : ∀ q, q ≤ n13 → (runL (eKey wayR) x.keys (rCount n13 4 (rText 24 x.name (wNum 2 x.id (s)))) q).l.length ≤ 3800000 := fun q hq => runL_bound up_key hq (by have h := HB48.out; rw [rList_run, ← HN15.out] at h; exact h)
  have HBq96 := Lib.hid hb95
  clear hb95
  have h0n13 : 0 ≤ (n13 : Int) := by omega
  go_loopw [24] (fun i W => ∃ q : Nat, q ≤ n13 ∧ i = .int .i64 q ∧ ∃ u, WrAt X B W (runL (eKey wayR) x.keys (rCount n13 4 (rText 24 x.name (wNum 2 x.id (s)))) q) u ∧ Gr X v w u W ∧ Loc X w.heap.size u W ∧ (∀ j (h : j < [.int .i64 x.id, .string (strL x.name), .slice A12 n13 cap14, .slice A20 n21 cap22, .int .i64 x.dflt, .slice A28 n29 cap30, .int .i64 x.size, .string (strL x.restr)].length), W.cell? ⟨w.heap.size, j, none⟩ = some ([.int .i64 x.id, .string (strL x.name), .slice A12 n13 cap14, .slice A20 n21 cap22, .int .i64 x.dflt, .slice A28 n29 cap30, .int .i64 x.size, .string (strL x.restr)][j]'h))) (fun i _ => n13 - (intOf i).toNat)
  case atStart => exact ⟨0, by omega, rfl, u85, HV88.out, HG89.out, HL92.out, HB93.out⟩
  case round =>
    obtain ⟨W99, hw100⟩ : ∃ x, x = wr := ⟨wr, rfl⟩
    subst hw100
    obtain ⟨q97, hq103, rfl, u98, hV104, hG105, l101, b102⟩ := hrel
    have HV106 := Lib.hid hV104
    have HG107 := Lib.hid hG105
    clear hV104 hG105
    have HL108 := Lib.hid l101
    have HB109 := Lib.hid b102
    clear l101 b102
    by_cases hqnq97 : q97 < n13
    · have hqiq97 : (q97 : Int) < (n13 : Int) := by omega
      have hq0q97 : 0 ≤ (q97 : Int) := by omega
      obtain ⟨eb111, eo112, ar117, y110, hx113, hL114⟩ := row_at HR19.out (q := q97) (by have := HN15.out; omega)
      subst ar117
      obtain ⟨hlt118, _, hc115, ⟨rfl, q119, q120, q121⟩⟩ := hL114
      have d122 : W99.cell? ⟨eb111, eo112 + q97 * 3, none⟩ = some (.string (strL y110.name)) := ((HG107.out.below HW.out hC).cell (p := ⟨eb111, eo112 + q97 * 3, none⟩) hlt118).trans (hc115 0 (by simp))
      have d123 : W99.cell? ⟨eb111, eo112 + q97 * 3 + 1, none⟩ = some (.int .i64 y110.field) := ((HG107.out.below HW.out hC).cell (p := ⟨eb111, eo112 + q97 * 3 + 1, none⟩) hlt118).trans (hc115 1 (by simp))
      have d124 : W99.cell? ⟨eb111, eo112 + q97 * 3 + 2, none⟩ = some (.int .i64 y110.kind) := ((HG107.out.below HW.out hC).cell (p := ⟨eb111, eo112 + q97 * 3 + 2, none⟩) hlt118).trans (hc115 2 (by simp))
      have HX116 := Lib.hid (runL_succ (eKey wayR) (rCount n13 4 (rText 24 x.name (wNum 2 x.id (s)))) hx113)
      clear hc115 hx113
      have hb125 := HBq96.out (q97 + 1) (by omega)
      rw [HX116.out] at hb125
      obtain ⟨W126, hE127⟩ : ∃ W2, W2 = W99.alloc (.cells #[.string (strL y110.name), .int .i64 y110.field, .int .i64 y110.kind] 110) := ⟨_, rfl⟩
      have hbl129 : Below W99.heap.size W99 W126 := by rw [hE127]; exact (Below.refl _ _).alloc (Nat.le_refl _) _
      have HV130 := Lib.hid (HV106.out.below hbl129)
      have HG131 := Lib.hid (HG107.out.trans (Gr.of_below hbl129))
      have HL132 : Hid (Loc X W99.heap.size u98 W126) := Lib.hid (by rw [hE127]; exact Loc.new HV106.out _)
      have HB133 : Hid (∀ j (h : j < [.string (strL y110.name), .int .i64 y110.field, .int .i64 y110.kind].length), W126.cell? ⟨W99.heap.size, j, none⟩ = some ([.string (strL y110.name), .int .i64 y110.field, .int .i64 y110.kind][j]'h)) := Lib.hid (by rw [hE127]; intro j h; rw [World.cell?_alloc_new, List.getElem?_toArray]; exact List.getElem?_eq_getElem h)
      have HL134 : Hid (Loc X w.heap.size u98 W126) := Lib.hid ((Gr.of_below (X := X) (v := u98) hbl129).loc HL108.out).1
      have HB135 := Lib.hid (fun j (h : j < [.int .i64 x.id, .string (strL x.name), .slice (some ⟨eb111, eo112, none⟩) n13 cap14, .slice A20 n21 cap22, .int .i64 x.dflt, .slice A28 n29 cap30, .int .i64 x.size, .string (strL x.restr)].length) => (((Gr.of_below (X := X) (v := u98) hbl129).loc HL108.out).2 j).trans (HB109.out j h))
      have HE128 := Lib.hid hE127
      clear hE127 hbl129
      have Hb136 : (wNum 1 y110.kind (wNum 2 y110.field (rText 24 y110.name (runL (eKey wayR) x.keys (rCount n13 4 (rText 24 x.name (wNum 2 x.id (s)))) q97)))).l.length ≤ 3800000 := hb125
      have Hb137 : (wNum 2 y110.field (rText 24 y110.name (runL (eKey wayR) x.keys (rCount n13 4 (rText 24 x.name (wNum 2 x.id (s)))) q97))).l.length ≤ 3800000 := Nat.le_trans ((up_num 1 y110.kind) (wNum 2 y110.field (rText 24 y110.name (runL (eKey wayR) x.keys (rCount n13 4 (rText 24 x.name (wNum 2 x.id (s)))) q97)))) Hb136
      have Hb138 : (rText 24 y110.name (runL (eKey wayR) x.keys (rCount n13 4 (rText 24 x.name (wNum 2 x.id (s)))) q97)).l.length ≤ 3800000 := Nat.le_trans ((up_num 2 y110.field) (rText 24 y110.name (runL (eKey wayR) x.keys (rCount n13 4 (rText 24 x.name (wNum 2 x.id (s)))) q97))) Hb137
      have Hb139 : (runL (eKey wayR) x.keys (rCount n13 4 (rText 24 x.name (wNum 2 x.id (s)))) q97).l.length ≤ 3800000 := Nat.le_trans ((up_rtext 24 y110.name) (runL (eKey wayR) x.keys (rCount n13 4 (rText 24 x.name (wNum 2 x.id (s)))) q97)) Hb138
      have HB140 := Lib.hid Hb139
      have HB141 := Lib.hid Hb138
      have HB142 := Lib.hid Hb137
      have HB143 := Lib.hid Hb136
      clear Hb139 Hb138 Hb137 Hb136
      clear hb125
      go_wp2_with fail
      rw [← HE128.out]
      refine (rwtext_any y110.name 24 (by decide) q119 HV130.out (by have := HB140.out; omega)).mono ?_
      rintro e w144 ⟨rfl, u145, hv146, hg147⟩
      have HV148 := Lib.hid hv146
      have HG149 := Lib.hid (HG131.out.trans hg147)
      obtain ⟨l150, c151⟩ := hg147.loc HL134.out
      have HL152 := Lib.hid l150
      have HB153 := Lib.hid (fun j (h : j < [.int .i64 x.id, .string (strL x.name), .slice (some ⟨eb111, eo112, none⟩) n13 cap14, .slice A20 n21 cap22, .int .i64 x.dflt, .slice A28 n29 cap30, .int .i64 x.size, .string (strL x.restr)].length) => (c151 j).trans (HB135.out j h))
      clear l150 c151
      obtain ⟨l154, c155⟩ := hg147.loc HL132.out
      have HL156 := Lib.hid l154
      have HB157 := Lib.hid (fun j (h : j < [.string (strL y110.name), .int .i64 y110.field, .int .i64 y110.kind].length) => (c155 j).trans (HB133.out j h))
      clear l154 c155
      clear hv146 hg147
      have d158 : w144.cell? ⟨W99.heap.size, 1, none⟩ = some (.int .i64 y110.field) := HB157.out 1 (by simp)
      go_wp2_with fail
      refine (rwnum_any 2 (.inr rfl) y110.field q120 HV148.out (by have := HB141.out; omega)).mono ?_
      rintro e w159 ⟨rfl, u160, hv161, hg162⟩
      have HV163 := Lib.hid hv161
      have HG164 := Lib.hid (HG149.out.trans hg162)
      obtain ⟨l165, c166⟩ := hg162.loc HL152.out
      have HL167 := Lib.hid l165
      have HB168 := Lib.hid (fun j (h : j < [.int .i64 x.id, .string (strL x.name), .slice (some ⟨eb111, eo112, none⟩) n13 cap14, .slice A20 n21 cap22, .int .i64 x.dflt, .slice A28 n29 cap30, .int .i64 x.size, .string (strL x.restr)].length) => (c166 j).trans (HB153.out j h))
      clear l165 c166
      obtain ⟨l169, c170⟩ := hg162.loc HL156.out
      have HL171 := Lib.hid l169
      have HB172 := Lib.hid (fun j (h : j < [.string (strL y110.name), .int .i64 y110.field, .int .i64 y110.kind].length) => (c170 j).trans (HB157.out j h))
      clear l169 c170
      clear hv161 hg162
      clear d158
      have d173 : w159.cell? ⟨W99.heap.size, 2, none⟩ = some (.int .i64 y110.kind) := HB172.out 2 (by simp)
      go_wp2_with fail
      refine (rwnum_any 1 (.inl rfl) y110.kind q121 HV163.out (by have := HB142.out; omega)).mono ?_
      rintro e w174 ⟨rfl, u175, hv176, hg177⟩
      have HV178 := Lib.hid hv176
      have HG179 := Lib.hid (HG164.out.trans hg177)
      obtain ⟨l180, c181⟩ := hg177.loc HL167.out
      have HL182 := Lib.hid l180
      have HB183 := Lib.hid (fun j (h : j < [.int .i64 x.id, .string (strL x.name), .slice (some ⟨eb111, eo112, none⟩) n13 cap14, .slice A20 n21 cap22, .int .i64 x.dflt, .slice A28 n29 cap30, .int .i64 x.size, .string (strL x.restr)].length) => (c181 j).trans (HB168.out j h))
      clear l180 c181
      obtain ⟨l184, c185⟩ := hg177.loc HL171.out
      have HL186 := Lib.hid l184
      have HB187 := Lib.hid (fun j (h : j < [.string (strL y110.name), .int .i64 y110.field, .int .i64 y110.kind].length) => (c185 j).trans (HB172.out j h))
      clear l184 c185
      clear hv176 hg177
      clear d173
      go_wp2_with fail
      go_roundw
      case rel => exact ⟨q97 + 1, by omega, by simp, u175, by rw [HX116.out]; exact HV178.out, HG179.out, HL182.out, HB183.out⟩
      case measure => simp [intOf]; omega
    · obtain rfl : n13 = q97 := by omega
      have HV188 : Hid (WrAt X B W99 (rList 4 (eKey wayR) x.keys (rText 24 x.name (wNum 2 x.id (s)))) u98) := Lib.hid (by rw [rList_run, ← HN15.out]; exact HV106.out)
      have d189 : W99.cell? ⟨w.heap.size, 3, none⟩ = some (.slice A20 n21 cap22) := HB109.out 3 (by simp)
      go_wp2_with fail
      refine (rwnums_any x.actions 12 _ (HR27.out.below kept_int (HG107.out.below HW.out hC)) hC HV188.out HB49.out).mono ?_
      rintro e w190 ⟨rfl, u191, hv192, hg193⟩
      have HV194 := Lib.hid hv192
      have HG195 := Lib.hid (HG107.out.trans hg193)
      obtain ⟨l196, c197⟩ := hg193.loc HL108.out
      have HL198 := Lib.hid l196
      have HB199 := Lib.hid (fun j (h : j < [.int .i64 x.id, .string (strL x.name), .slice A12 n13 cap14, .slice A20 n21 cap22, .int .i64 x.dflt, .slice A28 n29 cap30, .int .i64 x.size, .string (strL x.restr)].length) => (c197 j).trans (HB109.out j h))
      clear l196 c197
      clear hv192 hg193
      clear d189
      have d200 : w190.cell? ⟨w.heap.size, 4, none⟩ = some (.int .i64 x.dflt) := HB199.out 4 (by simp)
      go_wp2_with fail
      refine (rwnum_any 2 (.inr rfl) x.dflt q8 HV194.out (by have := HB49.out; omega)).mono ?_
      rintro e w201 ⟨rfl, u202, hv203, hg204⟩
      have HV205 := Lib.hid hv203
      have HG206 := Lib.hid (HG195.out.trans hg204)
      obtain ⟨l207, c208⟩ := hg204.loc HL198.out
      have HL209 := Lib.hid l207
      have HB210 := Lib.hid (fun j (h : j < [.int .i64 x.id, .string (strL x.name), .slice A12 n13 cap14, .slice A20 n21 cap22, .int .i64 x.dflt, .slice A28 n29 cap30, .int .i64 x.size, .string (strL x.restr)].length) => (c208 j).trans (HB199.out j h))
      clear l207 c208
      clear hv203 hg204
      clear d200
      have d211 : w201.cell? ⟨w.heap.size, 5, none⟩ = some (.slice A28 n29 cap30) := HB210.out 5 (by simp)
      go_wp2_with fail
      refine (rwcount_any n29 4 (by omega) HV205.out (by have := HB50.out; omega)).mono ?_
      rintro e w212 ⟨rfl, u213, hv214, hg215⟩
      have HV216 := Lib.hid hv214
      have HG217 := Lib.hid (HG206.out.trans hg215)
      obtain ⟨l218, c219⟩ := hg215.loc HL209.out
      have HL220 := Lib.hid l218
      have HB221 := Lib.hid (fun j (h : j < [.int .i64 x.id, .string (strL x.name), .slice A12 n13 cap14, .slice A20 n21 cap22, .int .i64 x.dflt, .slice A28 n29 cap30, .int .i64 x.size, .string (strL x.restr)].length) => (c219 j).trans (HB210.out j h))
      clear l218 c219
      clear hv214 hg215
      clear d211
      have d222 : w212.cell? ⟨w.heap.size, 5, none⟩ = some (.slice A28 n29 cap30) := HB221.out 5 (by simp)
      go_wp2_with fail
      clear d222
      have hb223 : ∀ q, q ≤ n29 → (runL wVal x.args (rCount n29 4 (wNum 2 x.dflt (rList 12 (wNum 2) x.actions (rList 4 (eKey wayR) x.keys (rText 24 x.name (wNum 2 x.id (s))))))) q).l.length ≤ 3800000 := fun q hq => runL_bound up_val hq (by have h := HB51.out; rw [rList_run, ← HN31.out] at h; exact h)
      have HBq224 := Lib.hid hb223
      clear hb223
      have h0n29 : 0 ≤ (n29 : Int) := by omega
      go_loopw [57] (fun i W => ∃ q : Nat, q ≤ n29 ∧ i = .int .i64 q ∧ ∃ u, WrAt X B W (runL wVal x.args (rCount n29 4 (wNum 2 x.dflt (rList 12 (wNum 2) x.actions (rList 4 (eKey wayR) x.keys (rText 24 x.name (wNum 2 x.id (s))))))) q) u ∧ Gr X v w u W ∧ Loc X w.heap.size u W ∧ (∀ j (h : j < [.int .i64 x.id, .string (strL x.name), .slice A12 n13 cap14, .slice A20 n21 cap22, .int .i64 x.dflt, .slice A28 n29 cap30, .int .i64 x.size, .string (strL x.restr)].length), W.cell? ⟨w.heap.size, j, none⟩ = some ([.int .i64 x.id, .string (strL x.name), .slice A12 n13 cap14, .slice A20 n21 cap22, .int .i64 x.dflt, .slice A28 n29 cap30, .int .i64 x.size, .string (strL x.restr)][j]'h))) (fun i _ => n29 - (intOf i).toNat)
      case atStart => exact ⟨0, by omega, rfl, u213, HV216.out, HG217.out, HL220.out, HB221.out⟩
      case round =>
        obtain ⟨W227, hw228⟩ : ∃ x, x = wr := ⟨wr, rfl⟩
        subst hw228
        obtain ⟨q225, hq231, rfl, u226, hV232, hG233, l229, b230⟩ := hrel
        have HV234 := Lib.hid hV232
        have HG235 := Lib.hid hG233
        clear hV232 hG233
        have HL236 := Lib.hid l229
        have HB237 := Lib.hid b230
        clear l229 b230
        by_cases hqnq225 : q225 < n29
        · have hqiq225 : (q225 : Int) < (n29 : Int) := by omega
          have hq0q225 : 0 ≤ (q225 : Int) := by omega
          obtain ⟨eb239, eo240, ar245, y238, hx241, hL242⟩ := row_at HR35.out (q := q225) (by have := HN31.out; omega)
          subst ar245
          obtain ⟨hlt246, _, hc243, rfl, q247⟩ := hL242
          have d248 : W227.cell? ⟨eb239, eo240 + q225 * 2, none⟩ = some (.int .u64 (hi y238)) := ((HG235.out.below HW.out hC).cell (p := ⟨eb239, eo240 + q225 * 2, none⟩) hlt246).trans (hc243 0 (by simp))
          have d249 : W227.cell? ⟨eb239, eo240 + q225 * 2 + 1, none⟩ = some (.int .u64 (lo y238)) := ((HG235.out.below HW.out hC).cell (p := ⟨eb239, eo240 + q225 * 2 + 1, none⟩) hlt246).trans (hc243 1 (by simp))
          have HX244 := Lib.hid (runL_succ wVal (rCount n29 4 (wNum 2 x.dflt (rList 12 (wNum 2) x.actions (rList 4 (eKey wayR) x.keys (rText 24 x.name (wNum 2 x.id (s))))))) hx241)
          clear hc243 hx241
          have hb250 := HBq224.out (q225 + 1) (by omega)
          rw [HX244.out] at hb250
          obtain ⟨W251, hE252⟩ : ∃ W2, W2 = W227.alloc (.cells #[.int .u64 (hi y238), .int .u64 (lo y238)] 80) := ⟨_, rfl⟩
          have hbl254 : Below W227.heap.size W227 W251 := by rw [hE252]; exact (Below.refl _ _).alloc (Nat.le_refl _) _
          have HV255 := Lib.hid (HV234.out.below hbl254)
          have HG256 := Lib.hid (HG235.out.trans (Gr.of_below hbl254))
          have HL257 : Hid (Loc X W227.heap.size u226 W251) := Lib.hid (by rw [hE252]; exact Loc.new HV234.out _)
          have HB258 : Hid (∀ j (h : j < [.int .u64 (hi y238), .int .u64 (lo y238)].length), W251.cell? ⟨W227.heap.size, j, none⟩ = some ([.int .u64 (hi y238), .int .u64 (lo y238)][j]'h)) := Lib.hid (by rw [hE252]; intro j h; rw [World.cell?_alloc_new, List.getElem?_toArray]; exact List.getElem?_eq_getElem h)
          have HL259 : Hid (Loc X w.heap.size u226 W251) := Lib.hid ((Gr.of_below (X := X) (v := u226) hbl254).loc HL236.out).1
          have HB260 := Lib.hid (fun j (h : j < [.int .i64 x.id, .string (strL x.name), .slice A12 n13 cap14, .slice A20 n21 cap22, .int .i64 x.dflt, .slice (some ⟨eb239, eo240, none⟩) n29 cap30, .int .i64 x.size, .string (strL x.restr)].length) => (((Gr.of_below (X := X) (v := u226) hbl254).loc HL236.out).2 j).trans (HB237.out j h))
          have HE253 := Lib.hid hE252
          clear hE252 hbl254
          go_wp2_with fail
          clear d248 d249 hb250
          rw [← HE253.out]
          refine (rwval_any y238 q247 HV255.out (by have := HBq224.out q225 (by omega); omega)).mono ?_
          rintro e w261 ⟨rfl, u262, hv263, hg264⟩
          have HV265 := Lib.hid hv263
          have HG266 := Lib.hid (HG256.out.trans hg264)
          obtain ⟨l267, c268⟩ := hg264.loc HL259.out
          have HL269 := Lib.hid l267
          have HB270 := Lib.hid (fun j (h : j < [.int .i64 x.id, .string (strL x.name), .slice A12 n13 cap14, .slice A20 n21 cap22, .int .i64 x.dflt, .slice (some ⟨eb239, eo240, none⟩) n29 cap30, .int .i64 x.size, .string (strL x.restr)].length) => (c268 j).trans (HB260.out j h))
          clear l267 c268
          obtain ⟨l271, c272⟩ := hg264.loc HL257.out
          have HL273 := Lib.hid l271
          have HB274 := Lib.hid (fun j (h : j < [.int .u64 (hi y238), .int .u64 (lo y238)].length) => (c272 j).trans (HB258.out j h))
          clear l271 c272
          clear hv263 hg264
          go_wp2_with fail
          go_roundw
          case rel => exact ⟨q225 + 1, by omega, by simp, u262, by rw [HX244.out]; exact HV265.out, HG266.out, HL269.out, HB270.out⟩
          case measure => simp [intOf]; omega
        · obtain rfl : n29 = q225 := by omega
          have HV275 : Hid (WrAt X B W227 (rList 4 wVal x.args (wNum 2 x.dflt (rList 12 (wNum 2) x.actions (rList 4 (eKey wayR) x.keys (rText 24 x.name (wNum 2 x.id (s))))))) u226) := Lib.hid (by rw [rList_run, ← HN31.out]; exact HV234.out)
          have d276 : W227.cell? ⟨w.heap.size, 6, none⟩ = some (.int .i64 x.size) := HB237.out 6 (by simp)
          go_wp2_with fail
          refine (rwnum_any 2 (.inr rfl) x.size q10 HV275.out (by have := HB51.out; omega)).mono ?_
          rintro e w277 ⟨rfl, u278, hv279, hg280⟩
          have HV281 := Lib.hid hv279
          have HG282 := Lib.hid (HG235.out.trans hg280)
          obtain ⟨l283, c284⟩ := hg280.loc HL236.out
          have HL285 := Lib.hid l283
          have HB286 := Lib.hid (fun j (h : j < [.int .i64 x.id, .string (strL x.name), .slice A12 n13 cap14, .slice A20 n21 cap22, .int .i64 x.dflt, .slice A28 n29 cap30, .int .i64 x.size, .string (strL x.restr)].length) => (c284 j).trans (HB237.out j h))
          clear l283 c284
          clear hv279 hg280
          clear d276
          have d287 : w277.cell? ⟨w.heap.size, 7, none⟩ = some (.string (strL x.restr)) := HB286.out 7 (by simp)
          go_wp2_with fail
          refine (rwtext_any x.restr 400 (by decide) q11 HV281.out (by have := HB52.out; omega)).mono ?_
          rintro e w288 ⟨rfl, u289, hv290, hg291⟩
          have HV292 := Lib.hid hv290
          have HG293 := Lib.hid (HG282.out.trans hg291)
          obtain ⟨l294, c295⟩ := hg291.loc HL285.out
          have HL296 := Lib.hid l294
          have HB297 := Lib.hid (fun j (h : j < [.int .i64 x.id, .string (strL x.name), .slice A12 n13 cap14, .slice A20 n21 cap22, .int .i64 x.dflt, .slice A28 n29 cap30, .int .i64 x.size, .string (strL x.restr)].length) => (c295 j).trans (HB286.out j h))
          clear l294 c295
          clear hv290 hg291
          clear d287
          go_wp2_with fail
          go_end0
          exact ⟨rfl, u289, HV292.out, HG293.out⟩
end
end
/- The reference's writer: roles. -/
section
open Go.RowKit

section
variable {C X B : Nat} {w : World} {s : WS} {v : Value}
set_option maxRecDepth 100000 in
set_option maxHeartbeats 4000000 in
theorem rwrole_any (x : RoleD) (cs : List Value) (hx : RoleV C w cs x) (hC : C ≤ X) (hW : WrAt X B w s v) (hl : ((eRole wayR) x s).l.length ≤ 3800000) :
    Calls Try.prog 30 #[.pointer (some ⟨X, 0, none⟩), .agg cs.toArray] w (WroteR X B v ((eRole wayR) x s) w) := by
  obtain ⟨sv1, sv2, rfl, q3, q4, q5, q6, q7⟩ := hx
  have hr12 := q5
  obtain ⟨A8, n9, cap10, rfl, HN11, nc13, cm14, _⟩ := q5
  unfold maxLen at cm14
  have HR15 := Lib.hid hr12
  clear hr12
  have hr20 := q6
  obtain ⟨A16, n17, cap18, rfl, HN19, nc21, cm22, _⟩ := q6
  unfold maxLen at cm22
  have HR23 := Lib.hid hr20
  clear hr20
  have HW := Lib.hid hW
  have HG0 := Lib.hid (Gr.refl X v w)
  clear hW
  have Hb24 : (wTruth x.audit (wNum 2 x.quota (rList 12 (wNum 2) x.actions (rList 8 (eGrant wayR) x.grants (rText 24 x.name (wNum 2 x.id (s))))))).l.length ≤ 3800000 := hl
  have Hb25 : (wNum 2 x.quota (rList 12 (wNum 2) x.actions (rList 8 (eGrant wayR) x.grants (rText 24 x.name (wNum 2 x.id (s)))))).l.length ≤ 3800000 := Nat.le_trans ((up_truth x.audit) (wNum 2 x.quota (rList 12 (wNum 2) x.actions (rList 8 (eGrant wayR) x.grants (rText 24 x.name (wNum 2 x.id (s))))))) Hb24
  have Hb26 : (rList 12 (wNum 2) x.actions (rList 8 (eGrant wayR) x.grants (rText 24 x.name (wNum 2 x.id (s))))).l.length ≤ 3800000 := Nat.le_trans ((up_num 2 x.quota) (rList 12 (wNum 2) x.actions (rList 8 (eGrant wayR) x.grants (rText 24 x.name (wNum 2 x.id (s)))))) Hb25
  have Hb27 : (rList 8 (eGrant wayR) x.grants (rText 24 x.name (wNum 2 x.id (s)))).l.length ≤ 3800000 := Nat.le_trans ((up_rlist 12 (up_num 2) x.actions) (rList 8 (eGrant wayR) x.grants (rText 24 x.name (wNum 2 x.id (s))))) Hb26
  have Hb28 : (rText 24 x.name (wNum 2 x.id (s))).l.length ≤ 3800000 := Nat.le_trans ((up_rlist 8 up_grant x.grants) (rText 24 x.name (wNum 2 x.id (s)))) Hb27
  have Hb29 : (wNum 2 x.id (s)).l.length ≤ 3800000 := Nat.le_trans ((up_rtext 24 x.name) (wNum 2 x.id (s))) Hb28
  have Hb30 : (s).l.length ≤ 3800000 := Nat.le_trans ((up_num 2 x.id) (s)) Hb29
  have HB31 := Lib.hid Hb30
  have HB32 := Lib.hid Hb29
  have HB33 := Lib.hid Hb28
  have HB34 := Lib.hid Hb27
  have HB35 := Lib.hid Hb26
  have HB36 := Lib.hid Hb25
  have HB37 := Lib.hid Hb24
  clear Hb30 Hb29 Hb28 Hb27 Hb26 Hb25 Hb24
  clear hl
  obtain ⟨W38, hE39⟩ : ∃ W2, W2 = w.alloc (.cells #[.int .i64 x.id, .string (strL x.name), .slice A8 n9 cap10, .slice A16 n17 cap18, .int .i64 x.quota, .bool x.audit] 77) := ⟨_, rfl⟩
  have hbl41 : Below w.heap.size w W38 := by rw [hE39]; exact (Below.refl _ _).alloc (Nat.le_refl _) _
  have HV42 := Lib.hid (HW.out.below hbl41)
  have HG43 := Lib.hid (HG0.out.trans (Gr.of_below hbl41))
  have HL44 : Hid (Loc X w.heap.size v W38) := Lib.hid (by rw [hE39]; exact Loc.new HW.out _)
  have HB45 : Hid (∀ j (h : j < [.int .i64 x.id, .string (strL x.name), .slice A8 n9 cap10, .slice A16 n17 cap18, .int .i64 x.quota, .bool x.audit].length), W38.cell? ⟨w.heap.size, j, none⟩ = some ([.int .i64 x.id, .string (strL x.name), .slice A8 n9 cap10, .slice A16 n17 cap18, .int .i64 x.quota, .bool x.audit][j]'h)) := Lib.hid (by rw [hE39]; intro j h; rw [World.cell?_alloc_new, List.getElem?_toArray]; exact List.getElem?_eq_getElem h)
  have HE40 := Lib.hid hE39
  clear hE39 hbl41
  go_enter Try.func30, Try.ntmps30
  go_wp2_with fail
  rw [← HE40.out]
  refine (rwnum_any 2 (.inr rfl) x.id q3 HV42.out (by have := HB31.out; omega)).mono ?_
  rintro e w46 ⟨rfl, u47, hv48, hg49⟩
  have HV50 := Lib.hid hv48
  have HG51 := Lib.hid (HG43.out.trans hg49)
  obtain ⟨l52, c53⟩ := hg49.loc HL44.out
  have HL54 := Lib.hid l52
  have HB55 := Lib.hid (fun j (h : j < [.int .i64 x.id, .string (strL x.name), .slice A8 n9 cap10, .slice A16 n17 cap18, .int .i64 x.quota, .bool x.audit].length) => (c53 j).trans (HB45.out j h))
  clear l52 c53
  clear hv48 hg49
  have d56 : w46.cell? ⟨w.heap.size, 1, none⟩ = some (.string (strL x.name)) := HB55.out 1 (by simp)
  go_wp2_with fail
  refine (rwtext_any x.name 24 (by decide) q4 HV50.out (by have := HB32.out; omega)).mono ?_
  rintro e w57 ⟨rfl, u58, hv59, hg60⟩
  have HV61 := Lib.hid hv59
  have HG62 := Lib.hid (HG51.out.trans hg60)
  obtain ⟨l63, c64⟩ := hg60.loc HL54.out
  have HL65 := Lib.hid l63
  have HB66 := Lib.hid (fun j (h : j < [.int .i64 x.id, .string (strL x.name), .slice A8 n9 cap10, .slice A16 n17 cap18, .int .i64 x.quota, .bool x.audit].length) => (c64 j).trans (HB55.out j h))
  clear l63 c64
  clear hv59 hg60
  clear d56
  have d67 : w57.cell? ⟨w.heap.size, 2, none⟩ = some (.slice A8 n9 cap10) := HB66.out 2 (by simp)
  go_wp2_with fail
  refine (rwcount_any n9 8 (by omega) HV61.out (by have := HB33.out; omega)).mono ?_
  rintro e w68 ⟨rfl, u69, hv70, hg71⟩
  have HV72 := Lib.hid hv70
  have HG73 := Lib.hid (HG62.out.trans hg71)
  obtain ⟨l74, c75⟩ := hg71.loc HL65.out
  have HL76 := Lib.hid l74
  have HB77 := Lib.hid (fun j (h : j < [.int .i64 x.id, .string (strL x.name), .slice A8 n9 cap10, .slice A16 n17 cap18, .int .i64 x.quota, .bool x.audit].length) => (c75 j).trans (HB66.out j h))
  clear l74 c75
  clear hv70 hg71
  clear d67
  have d78 : w68.cell? ⟨w.heap.size, 2, none⟩ = some (.slice A8 n9 cap10) := HB77.out 2 (by simp)
  go_wp2_with fail
  clear d78
  have hb79 : ∀ q, q ≤ n9 → (runL (eGrant wayR) x.grants (rCount n9 8 (rText 24 x.name (wNum 2 x.id (s)))) q).l.length ≤ 3800000 := fun q hq => runL_bound up_grant hq (by have h := HB34.out; rw [rList_run, ← HN11.out] at h; exact h)
  have HBq80 := Lib.hid hb79
  clear hb79
  have h0n9 : 0 ≤ (n9 : Int) := by omega
  go_loopw [24] (fun i W => ∃ q : Nat, q ≤ n9 ∧ i = .int .i64 q ∧ ∃ u, WrAt X B W (runL (eGrant wayR) x.grants (rCount n9 8 (rText 24 x.name (wNum 2 x.id (s)))) q) u ∧ Gr X v w u W ∧ Loc X w.heap.size u W ∧ (∀ j (h : j < [.int .i64 x.id, .string (strL x.name), .slice A8 n9 cap10, .slice A16 n17 cap18, .int .i64 x.quota, .bool x.audit].length), W.cell? ⟨w.heap.size, j, none⟩ = some ([.int .i64 x.id, .string (strL x.name), .slice A8 n9 cap10, .slice A16 n17 cap18, .int .i64 x.quota, .bool x.audit][j]'h))) (fun i _ => n9 - (intOf i).toNat)
  case atStart => exact ⟨0, by omega, rfl, u69, HV72.out, HG73.out, HL76.out, HB77.out⟩
  case round =>
    obtain ⟨W83, hw84⟩ : ∃ x, x = wr := ⟨wr, rfl⟩
    subst hw84
    obtain ⟨q81, hq87, rfl, u82, hV88, hG89, l85, b86⟩ := hrel
    have HV90 := Lib.hid hV88
    have HG91 := Lib.hid hG89
    clear hV88 hG89
    have HL92 := Lib.hid l85
    have HB93 := Lib.hid b86
    clear l85 b86
    by_cases hqnq81 : q81 < n9
    · have hqiq81 : (q81 : Int) < (n9 : Int) := by omega
      have hq0q81 : 0 ≤ (q81 : Int) := by omega
      obtain ⟨eb95, eo96, ar101, y94, hx97, hL98⟩ := row_at HR15.out (q := q81) (by have := HN11.out; omega)
      subst ar101
      obtain ⟨hlt102, _, hc99, ⟨sv103, rfl, q104, q105⟩⟩ := hL98
      have hr110 := q105
      obtain ⟨A106, n107, cap108, rfl, HN109, nc111, cm112, _⟩ := q105
      unfold maxLen at cm112
      have HR113 := Lib.hid hr110
      clear hr110
      have d114 : W83.cell? ⟨eb95, eo96 + q81 * 4, none⟩ = some (.int .i64 y94.table) := ((HG91.out.below HW.out hC).cell (p := ⟨eb95, eo96 + q81 * 4, none⟩) hlt102).trans (hc99 0 (by simp))
      have d115 : W83.cell? ⟨eb95, eo96 + q81 * 4 + 1, none⟩ = some (.bool y94.read) := ((HG91.out.below HW.out hC).cell (p := ⟨eb95, eo96 + q81 * 4 + 1, none⟩) hlt102).trans (hc99 1 (by simp))
      have d116 : W83.cell? ⟨eb95, eo96 + q81 * 4 + 2, none⟩ = some (.bool y94.write) := ((HG91.out.below HW.out hC).cell (p := ⟨eb95, eo96 + q81 * 4 + 2, none⟩) hlt102).trans (hc99 2 (by simp))
      have d117 : W83.cell? ⟨eb95, eo96 + q81 * 4 + 3, none⟩ = some (.slice A106 n107 cap108) := ((HG91.out.below HW.out hC).cell (p := ⟨eb95, eo96 + q81 * 4 + 3, none⟩) hlt102).trans (hc99 3 (by simp))
      have HX100 := Lib.hid (runL_succ (eGrant wayR) (rCount n9 8 (rText 24 x.name (wNum 2 x.id (s)))) hx97)
      clear hc99 hx97
      have hb118 := HBq80.out (q81 + 1) (by omega)
      rw [HX100.out] at hb118
      obtain ⟨W119, hE120⟩ : ∃ W2, W2 = W83.alloc (.cells #[.int .i64 y94.table, .bool y94.read, .bool y94.write, .slice A106 n107 cap108] 115) := ⟨_, rfl⟩
      have hbl122 : Below W83.heap.size W83 W119 := by rw [hE120]; exact (Below.refl _ _).alloc (Nat.le_refl _) _
      have HV123 := Lib.hid (HV90.out.below hbl122)
      have HG124 := Lib.hid (HG91.out.trans (Gr.of_below hbl122))
      have HL125 : Hid (Loc X W83.heap.size u82 W119) := Lib.hid (by rw [hE120]; exact Loc.new HV90.out _)
      have HB126 : Hid (∀ j (h : j < [.int .i64 y94.table, .bool y94.read, .bool y94.write, .slice A106 n107 cap108].length), W119.cell? ⟨W83.heap.size, j, none⟩ = some ([.int .i64 y94.table, .bool y94.read, .bool y94.write, .slice A106 n107 cap108][j]'h)) := Lib.hid (by rw [hE120]; intro j h; rw [World.cell?_alloc_new, List.getElem?_toArray]; exact List.getElem?_eq_getElem h)
      have HL127 : Hid (Loc X w.heap.size u82 W119) := Lib.hid ((Gr.of_below (X := X) (v := u82) hbl122).loc HL92.out).1
      have HB128 := Lib.hid (fun j (h : j < [.int .i64 x.id, .string (strL x.name), .slice (some ⟨eb95, eo96, none⟩) n9 cap10, .slice A16 n17 cap18, .int .i64 x.quota, .bool x.audit].length) => (((Gr.of_below (X := X) (v := u82) hbl122).loc HL92.out).2 j).trans (HB93.out j h))
      have HE121 := Lib.hid hE120
      clear hE120 hbl122
      have Hb129 : (rList 4 wTruth y94.keys (wTruth y94.write (wTruth y94.read (wNum 2 y94.table (runL (eGrant wayR) x.grants (rCount n9 8 (rText 24 x.name (wNum 2 x.id (s)))) q81))))).l.length ≤ 3800000 := hb118
      have Hb130 : (wTruth y94.write (wTruth y94.read (wNum 2 y94.table (runL (eGrant wayR) x.grants (rCount n9 8 (rText 24 x.name (wNum 2 x.id (s)))) q81)))).l.length ≤ 3800000 := Nat.le_trans ((up_rlist 4 up_truth y94.keys) (wTruth y94.write (wTruth y94.read (wNum 2 y94.table (runL (eGrant wayR) x.grants (rCount n9 8 (rText 24 x.name (wNum 2 x.id (s)))) q81))))) Hb129
      have Hb131 : (wTruth y94.read (wNum 2 y94.table (runL (eGrant wayR) x.grants (rCount n9 8 (rText 24 x.name (wNum 2 x.id (s)))) q81))).l.length ≤ 3800000 := Nat.le_trans ((up_truth y94.write) (wTruth y94.read (wNum 2 y94.table (runL (eGrant wayR) x.grants (rCount n9 8 (rText 24 x.name (wNum 2 x.id (s)))) q81)))) Hb130
      have Hb132 : (wNum 2 y94.table (runL (eGrant wayR) x.grants (rCount n9 8 (rText 24 x.name (wNum 2 x.id (s)))) q81)).l.length ≤ 3800000 := Nat.le_trans ((up_truth y94.read) (wNum 2 y94.table (runL (eGrant wayR) x.grants (rCount n9 8 (rText 24 x.name (wNum 2 x.id (s)))) q81))) Hb131
      have Hb133 : (runL (eGrant wayR) x.grants (rCount n9 8 (rText 24 x.name (wNum 2 x.id (s)))) q81).l.length ≤ 3800000 := Nat.le_trans ((up_num 2 y94.table) (runL (eGrant wayR) x.grants (rCount n9 8 (rText 24 x.name (wNum 2 x.id (s)))) q81)) Hb132
      have HB134 := Lib.hid Hb133
      have HB135 := Lib.hid Hb132
      have HB136 := Lib.hid Hb131
      have HB137 := Lib.hid Hb130
      have HB138 := Lib.hid Hb129
      clear Hb133 Hb132 Hb131 Hb130 Hb129
      clear hb118
      go_wp2_with fail
      rw [← HE121.out]
      refine (rwnum_any 2 (.inr rfl) y94.table q104 HV123.out (by have := HB134.out; omega)).mono ?_
      rintro e w139 ⟨rfl, u140, hv141, hg142⟩
      have HV143 := Lib.hid hv141
      have HG144 := Lib.hid (HG124.out.trans hg142)
      obtain ⟨l145, c146⟩ := hg142.loc HL127.out
      have HL147 := Lib.hid l145
      have HB148 := Lib.hid (fun j (h : j < [.int .i64 x.id, .string (strL x.name), .slice (some ⟨eb95, eo96, none⟩) n9 cap10, .slice A16 n17 cap18, .int .i64 x.quota, .bool x.audit].length) => (c146 j).trans (HB128.out j h))
      clear l145 c146
      obtain ⟨l149, c150⟩ := hg142.loc HL125.out
      have HL151 := Lib.hid l149
      have HB152 := Lib.hid (fun j (h : j < [.int .i64 y94.table, .bool y94.read, .bool y94.write, .slice A106 n107 cap108].length) => (c150 j).trans (HB126.out j h))
      clear l149 c150
      clear hv141 hg142
      have d153 : w139.cell? ⟨W83.heap.size, 1, none⟩ = some (.bool y94.read) := HB152.out 1 (by simp)
      go_wp2_with fail
      refine (rwtruth_any y94.read HV143.out (by have := HB135.out; omega)).mono ?_
      rintro e w154 ⟨rfl, u155, hv156, hg157⟩
      have HV158 := Lib.hid hv156
      have HG159 := Lib.hid (HG144.out.trans hg157)
      obtain ⟨l160, c161⟩ := hg157.loc HL147.out
      have HL162 := Lib.hid l160
      have HB163 := Lib.hid (fun j (h : j < [.int .i64 x.id, .string (strL x.name), .slice (some ⟨eb95, eo96, none⟩) n9 cap10, .slice A16 n17 cap18, .int .i64 x.quota, .bool x.audit].length) => (c161 j).trans (HB148.out j h))
      clear l160 c161
      obtain ⟨l164, c165⟩ := hg157.loc HL151.out
      have HL166 := Lib.hid l164
      have HB167 := Lib.hid (fun j (h : j < [.int .i64 y94.table, .bool y94.read, .bool y94.write, .slice A106 n107 cap108].length) => (c165 j).trans (HB152.out j h))
      clear l164 c165
      clear hv156 hg157
      clear d153
      have d168 : w154.cell? ⟨W83.heap.size, 2, none⟩ = some (.bool y94.write) := HB167.out 2 (by simp)
      go_wp2_with fail
      refine (rwtruth_any y94.write HV158.out (by have := HB136.out; omega)).mono ?_
      rintro e w169 ⟨rfl, u170, hv171, hg172⟩
      have HV173 := Lib.hid hv171
      have HG174 := Lib.hid (HG159.out.trans hg172)
      obtain ⟨l175, c176⟩ := hg172.loc HL162.out
      have HL177 := Lib.hid l175
      have HB178 := Lib.hid (fun j (h : j < [.int .i64 x.id, .string (strL x.name), .slice (some ⟨eb95, eo96, none⟩) n9 cap10, .slice A16 n17 cap18, .int .i64 x.quota, .bool x.audit].length) => (c176 j).trans (HB163.out j h))
      clear l175 c176
      obtain ⟨l179, c180⟩ := hg172.loc HL166.out
      have HL181 := Lib.hid l179
      have HB182 := Lib.hid (fun j (h : j < [.int .i64 y94.table, .bool y94.read, .bool y94.write, .slice A106 n107 cap108].length) => (c180 j).trans (HB167.out j h))
      clear l179 c180
      clear hv171 hg172
      clear d168
      have d183 : w169.cell? ⟨W83.heap.size, 3, none⟩ = some (.slice A106 n107 cap108) := HB182.out 3 (by simp)
      go_wp2_with fail
      refine (rwcount_any n107 4 (by omega) HV173.out (by have := HB137.out; omega)).mono ?_
      rintro e w184 ⟨rfl, u185, hv186, hg187⟩
      have HV188 := Lib.hid hv186
      have HG189 := Lib.hid (HG174.out.trans hg187)
      obtain ⟨l190, c191⟩ := hg187.loc HL177.out
      have HL192 := Lib.hid l190
      have HB193 := Lib.hid (fun j (h : j < [.int .i64 x.id, .string (strL x.name), .slice (some ⟨eb95, eo96, none⟩) n9 cap10, .slice A16 n17 cap18, .int .i64 x.quota, .bool x.audit].length) => (c191 j).trans (HB178.out j h))
      clear l190 c191
      obtain ⟨l194, c195⟩ := hg187.loc HL181.out
      have HL196 := Lib.hid l194
      have HB197 := Lib.hid (fun j (h : j < [.int .i64 y94.table, .bool y94.read, .bool y94.write, .slice A106 n107 cap108].length) => (c195 j).trans (HB182.out j h))
      clear l194 c195
      clear hv186 hg187
      clear d183
      have d198 : w184.cell? ⟨W83.heap.size, 3, none⟩ = some (.slice A106 n107 cap108) := HB197.out 3 (by simp)
      go_wp2_with fail
      clear d198
      have hb199 : ∀ q, q ≤ n107 → (runL wTruth y94.keys (rCount n107 4 (wTruth y94.write (wTruth y94.read (wNum 2 y94.table (runL (eGrant wayR) x.grants (rCount n9 8 (rText 24 x.name (wNum 2 x.id (s)))) q81))))) q).l.length ≤ 3800000 := fun q hq => runL_bound up_truth hq (by have h := HB138.out; rw [rList_run, ← HN109.out] at h; exact h)
      have HBq200 := Lib.hid hb199
      clear hb199
      have h0n107 : 0 ≤ (n107 : Int) := by omega
      go_loopw [48] (fun i W => ∃ q : Nat, q ≤ n107 ∧ i = .int .i64 q ∧ ∃ u, WrAt X B W (runL wTruth y94.keys (rCount n107 4 (wTruth y94.write (wTruth y94.read (wNum 2 y94.table (runL (eGrant wayR) x.grants (rCount n9 8 (rText 24 x.name (wNum 2 x.id (s)))) q81))))) q) u ∧ Gr X v w u W ∧ Loc X w.heap.size u W ∧ (∀ j (h : j < [.int .i64 x.id, .string (strL x.name), .slice (some ⟨eb95, eo96, none⟩) n9 cap10, .slice A16 n17 cap18, .int .i64 x.quota, .bool x.audit].length), W.cell? ⟨w.heap.size, j, none⟩ = some ([.int .i64 x.id, .string (strL x.name), .slice (some ⟨eb95, eo96, none⟩) n9 cap10, .slice A16 n17 cap18, .int .i64 x.quota, .bool x.audit][j]'h)) ∧ Loc X W83.heap.size u W ∧ (∀ j (h : j < [.int .i64 y94.table, .bool y94.read, .bool y94.write, .slice A106 n107 cap108].length), W.cell? ⟨W83.heap.size, j, none⟩ = some ([.int .i64 y94.table, .bool y94.read, .bool y94.write, .slice A106 n107 cap108][j]'h))) (fun i _ => n107 - (intOf i).toNat)
      case atStart => exact ⟨0, by omega, rfl, u185, HV188.out, HG189.out, HL192.out, HB193.out, HL196.out, HB197.out⟩
      case round =>
        obtain ⟨W203, hw204⟩ : ∃ x, x = wr := ⟨wr, rfl⟩
        subst hw204
        obtain ⟨q201, hq209, rfl, u202, hV210, hG211, l205, b206, l207, b208⟩ := hrel
        have HV212 := Lib.hid hV210
        have HG213 := Lib.hid hG211
        clear hV210 hG211
        have HL214 := Lib.hid l205
        have HB215 := Lib.hid b206
        clear l205 b206
        have HL216 := Lib.hid l207
        have HB217 := Lib.hid b208
        clear l207 b208
        by_cases hqnq201 : q201 < n107
        · have hqiq201 : (q201 : Int) < (n107 : Int) := by omega
          have hq0q201 : 0 ≤ (q201 : Int) := by omega
          obtain ⟨eb219, eo220, ar225, y218, hx221, hL222⟩ := row_at HR113.out (q := q201) (by have := HN109.out; omega)
          subst ar225
          obtain ⟨hlt226, _, hc223, rfl⟩ := hL222
          have d227 : W203.cell? ⟨eb219, eo220 + q201, none⟩ = some (.bool y218) := ((HG213.out.below HW.out hC).cell (p := ⟨eb219, eo220 + q201, none⟩) hlt226).trans (by simpa using hc223 0 (by simp))
          have HX224 := Lib.hid (runL_succ wTruth (rCount n107 4 (wTruth y94.write (wTruth y94.read (wNum 2 y94.table (runL (eGrant wayR) x.grants (rCount n9 8 (rText 24 x.name (wNum 2 x.id (s)))) q81))))) hx221)
          clear hc223 hx221
          have hb228 := HBq200.out (q201 + 1) (by omega)
          rw [HX224.out] at hb228
          go_wp2_with fail
          clear d227 hb228
          refine (rwtruth_any y218 HV212.out (by have := HBq200.out q201 (by omega); omega)).mono ?_
          rintro e w229 ⟨rfl, u230, hv231, hg232⟩
          have HV233 := Lib.hid hv231
          have HG234 := Lib.hid (HG213.out.trans hg232)
          obtain ⟨l235, c236⟩ := hg232.loc HL214.out
          have HL237 := Lib.hid l235
          have HB238 := Lib.hid (fun j (h : j < [.int .i64 x.id, .string (strL x.name), .slice (some ⟨eb95, eo96, none⟩) n9 cap10, .slice A16 n17 cap18, .int .i64 x.quota, .bool x.audit].length) => (c236 j).trans (HB215.out j h))
          clear l235 c236
          obtain ⟨l239, c240⟩ := hg232.loc HL216.out
          have HL241 := Lib.hid l239
          have HB242 := Lib.hid (fun j (h : j < [.int .i64 y94.table, .bool y94.read, .bool y94.write, .slice (some ⟨eb219, eo220, none⟩) n107 cap108].length) => (c240 j).trans (HB217.out j h))
          clear l239 c240
          clear hv231 hg232
          go_wp2_with fail
          go_roundw
          case rel => exact ⟨q201 + 1, by omega, by simp, u230, by rw [HX224.out]; exact HV233.out, HG234.out, HL237.out, HB238.out, HL241.out, HB242.out⟩
          case measure => simp [intOf]; omega
        · obtain rfl : n107 = q201 := by omega
          have HV243 : Hid (WrAt X B W203 (rList 4 wTruth y94.keys (wTruth y94.write (wTruth y94.read (wNum 2 y94.table (runL (eGrant wayR) x.grants (rCount n9 8 (rText 24 x.name (wNum 2 x.id (s)))) q81))))) u202) := Lib.hid (by rw [rList_run, ← HN109.out]; exact HV212.out)
          go_wp2_with fail
          go_roundw
          case rel => exact ⟨q81 + 1, by omega, by simp, u202, by rw [HX100.out]; exact HV243.out, HG213.out, HL214.out, HB215.out⟩
          case measure => simp [intOf]; omega
    · obtain rfl : n9 = q81 := by omega
      have HV244 : Hid (WrAt X B W83 (rList 8 (eGrant wayR) x.grants (rText 24 x.name (wNum 2 x.id (s)))) u82) := Lib.hid (by rw [rList_run, ← HN11.out]; exact HV90.out)
      have d245 : W83.cell? ⟨w.heap.size, 3, none⟩ = some (.slice A16 n17 cap18) := HB93.out 3 (by simp)
      go_wp2_with fail
      refine (rwnums_any x.actions 12 _ (HR23.out.below kept_int (HG91.out.below HW.out hC)) hC HV244.out HB35.out).mono ?_
      rintro e w246 ⟨rfl, u247, hv248, hg249⟩
      have HV250 := Lib.hid hv248
      have HG251 := Lib.hid (HG91.out.trans hg249)
      obtain ⟨l252, c253⟩ := hg249.loc HL92.out
      have HL254 := Lib.hid l252
      have HB255 := Lib.hid (fun j (h : j < [.int .i64 x.id, .string (strL x.name), .slice A8 n9 cap10, .slice A16 n17 cap18, .int .i64 x.quota, .bool x.audit].length) => (c253 j).trans (HB93.out j h))
      clear l252 c253
      clear hv248 hg249
      clear d245
      have d256 : w246.cell? ⟨w.heap.size, 4, none⟩ = some (.int .i64 x.quota) := HB255.out 4 (by simp)
      go_wp2_with fail
      refine (rwnum_any 2 (.inr rfl) x.quota q7 HV250.out (by have := HB35.out; omega)).mono ?_
      rintro e w257 ⟨rfl, u258, hv259, hg260⟩
      have HV261 := Lib.hid hv259
      have HG262 := Lib.hid (HG251.out.trans hg260)
      obtain ⟨l263, c264⟩ := hg260.loc HL254.out
      have HL265 := Lib.hid l263
      have HB266 := Lib.hid (fun j (h : j < [.int .i64 x.id, .string (strL x.name), .slice A8 n9 cap10, .slice A16 n17 cap18, .int .i64 x.quota, .bool x.audit].length) => (c264 j).trans (HB255.out j h))
      clear l263 c264
      clear hv259 hg260
      clear d256
      have d267 : w257.cell? ⟨w.heap.size, 5, none⟩ = some (.bool x.audit) := HB266.out 5 (by simp)
      go_wp2_with fail
      refine (rwtruth_any x.audit HV261.out (by have := HB36.out; omega)).mono ?_
      rintro e w268 ⟨rfl, u269, hv270, hg271⟩
      have HV272 := Lib.hid hv270
      have HG273 := Lib.hid (HG262.out.trans hg271)
      obtain ⟨l274, c275⟩ := hg271.loc HL265.out
      have HL276 := Lib.hid l274
      have HB277 := Lib.hid (fun j (h : j < [.int .i64 x.id, .string (strL x.name), .slice A8 n9 cap10, .slice A16 n17 cap18, .int .i64 x.quota, .bool x.audit].length) => (c275 j).trans (HB266.out j h))
      clear l274 c275
      clear hv270 hg271
      clear d267
      go_wp2_with fail
      go_end0
      exact ⟨rfl, u269, HV272.out, HG273.out⟩
end
end
/- The reference's writer: fields, headers and states. -/
section
open Go.RowKit

section
variable {C X B : Nat} {w : World} {s : WS} {v : Value}
set_option maxRecDepth 100000 in
set_option maxHeartbeats 4000000 in
theorem rwpacket_any (x : SchemaD) (cs : List Value) (hx : SchemaV C w cs x) (hC : C ≤ X) (hW : WrAt X B w s v) (hl : ((ePacket wayR) x s).l.length ≤ 3800000) :
    Calls Try.prog 26 #[.pointer (some ⟨X, 0, none⟩), .agg cs.toArray] w (WroteR X B v ((ePacket wayR) x s) w) := by
  obtain ⟨sv1, sv2, sv3, sv4, sv5, sv6, sv7, sv8, rfl, q9, q10, q11, q12, q13, q14, q15, q16, q17, q18⟩ := hx
  have hr23 := q9
  obtain ⟨A19, n20, cap21, rfl, HN22, nc24, cm25, _⟩ := q9
  unfold maxLen at cm25
  have HR26 := Lib.hid hr23
  clear hr23
  have hr31 := q10
  obtain ⟨A27, n28, cap29, rfl, HN30, nc32, cm33, _⟩ := q10
  unfold maxLen at cm33
  have HR34 := Lib.hid hr31
  clear hr31
  have hr39 := q11
  obtain ⟨A35, n36, cap37, rfl, HN38, nc40, cm41, _⟩ := q11
  unfold maxLen at cm41
  have HR42 := Lib.hid hr39
  clear hr39
  have hr47 := q12
  obtain ⟨A43, n44, cap45, rfl, HN46, nc48, cm49, _⟩ := q12
  unfold maxLen at cm49
  have HR50 := Lib.hid hr47
  clear hr47
  have hr55 := q13
  obtain ⟨A51, n52, cap53, rfl, HN54, nc56, cm57, _⟩ := q13
  unfold maxLen at cm57
  have HR58 := Lib.hid hr55
  clear hr55
  have hr63 := q14
  obtain ⟨A59, n60, cap61, rfl, HN62, nc64, cm65, _⟩ := q14
  unfold maxLen at cm65
  have HR66 := Lib.hid hr63
  clear hr63
  have hr71 := q15
  obtain ⟨A67, n68, cap69, rfl, HN70, nc72, cm73, _⟩ := q15
  unfold maxLen at cm73
  have HR74 := Lib.hid hr71
  clear hr71
  have hr79 := q16
  obtain ⟨A75, n76, cap77, rfl, HN78, nc80, cm81, _⟩ := q16
  unfold maxLen at cm81
  have HR82 := Lib.hid hr79
  clear hr79
  have HW := Lib.hid hW
  have HG0 := Lib.hid (Gr.refl X v w)
  clear hW
  have Hb83 : (rList 12 (eState wayR) x.states (rList 8 (eHeader wayR) x.headers (rList 32 (eField wayR) x.fields (s)))).l.length ≤ 3800000 := hl
  have Hb84 : (rList 8 (eHeader wayR) x.headers (rList 32 (eField wayR) x.fields (s))).l.length ≤ 3800000 := Nat.le_trans ((up_rlist 12 up_state x.states) (rList 8 (eHeader wayR) x.headers (rList 32 (eField wayR) x.fields (s)))) Hb83
  have Hb85 : (rList 32 (eField wayR) x.fields (s)).l.length ≤ 3800000 := Nat.le_trans ((up_rlist 8 up_header x.headers) (rList 32 (eField wayR) x.fields (s))) Hb84
  have Hb86 : (s).l.length ≤ 3800000 := Nat.le_trans ((up_rlist 32 up_field x.fields) (s)) Hb85
  have HB87 := Lib.hid Hb86
  have HB88 := Lib.hid Hb85
  have HB89 := Lib.hid Hb84
  have HB90 := Lib.hid Hb83
  clear Hb86 Hb85 Hb84 Hb83
  clear hl
  obtain ⟨W91, hE92⟩ : ∃ W2, W2 = w.alloc (.cells #[.slice A19 n20 cap21, .slice A27 n28 cap29, .slice A35 n36 cap37, .slice A43 n44 cap45, .slice A51 n52 cap53, .slice A59 n60 cap61, .slice A67 n68 cap69, .slice A75 n76 cap77, .int .i64 x.maxBatch, .int .i64 x.budget] 31) := ⟨_, rfl⟩
  have hbl94 : Below w.heap.size w W91 := by rw [hE92]; exact (Below.refl _ _).alloc (Nat.le_refl _) _
  have HV95 := Lib.hid (HW.out.below hbl94)
  have HG96 := Lib.hid (HG0.out.trans (Gr.of_below hbl94))
  have HL97 : Hid (Loc X w.heap.size v W91) := Lib.hid (by rw [hE92]; exact Loc.new HW.out _)
  have HB98 : Hid (∀ j (h : j < [.slice A19 n20 cap21, .slice A27 n28 cap29, .slice A35 n36 cap37, .slice A43 n44 cap45, .slice A51 n52 cap53, .slice A59 n60 cap61, .slice A67 n68 cap69, .slice A75 n76 cap77, .int .i64 x.maxBatch, .int .i64 x.budget].length), W91.cell? ⟨w.heap.size, j, none⟩ = some ([.slice A19 n20 cap21, .slice A27 n28 cap29, .slice A35 n36 cap37, .slice A43 n44 cap45, .slice A51 n52 cap53, .slice A59 n60 cap61, .slice A67 n68 cap69, .slice A75 n76 cap77, .int .i64 x.maxBatch, .int .i64 x.budget][j]'h)) := Lib.hid (by rw [hE92]; intro j h; rw [World.cell?_alloc_new, List.getElem?_toArray]; exact List.getElem?_eq_getElem h)
  have HE93 := Lib.hid hE92
  clear hE92 hbl94
  go_enter Try.func26, Try.ntmps26
  have d99 : W91.cell? ⟨w.heap.size, 0, none⟩ = some (.slice A19 n20 cap21) := HB98.out 0 (by simp)
  go_wp2_with fail
  rw [← HE93.out]
  refine (rwcount_any n20 32 (by omega) HV95.out (by have := HB87.out; omega)).mono ?_
  rintro e w100 ⟨rfl, u101, hv102, hg103⟩
  have HV104 := Lib.hid hv102
  have HG105 := Lib.hid (HG96.out.trans hg103)
  obtain ⟨l106, c107⟩ := hg103.loc HL97.out
  have HL108 := Lib.hid l106
  have HB109 := Lib.hid (fun j (h : j < [.slice A19 n20 cap21, .slice A27 n28 cap29, .slice A35 n36 cap37, .slice A43 n44 cap45, .slice A51 n52 cap53, .slice A59 n60 cap61, .slice A67 n68 cap69, .slice A75 n76 cap77, .int .i64 x.maxBatch, .int .i64 x.budget].length) => (c107 j).trans (HB98.out j h))
  clear l106 c107
  clear hv102 hg103
  clear d99
  have d110 : w100.cell? ⟨w.heap.size, 0, none⟩ = some (.slice A19 n20 cap21) := HB109.out 0 (by simp)
  go_wp2_with fail
  clear d110
  have hb111 : ∀ q, q ≤ n20 → (runL (eField wayR) x.fields (rCount n20 32 (s)) q).l.length ≤ 3800000 := fun q hq => runL_bound up_field hq (by have h := HB88.out; rw [rList_run, ← HN22.out] at h; exact h)
  have HBq112 := Lib.hid hb111
  clear hb111
  have h0n20 : 0 ≤ (n20 : Int) := by omega
  go_loopw [20] (fun i W => ∃ q : Nat, q ≤ n20 ∧ i = .int .i64 q ∧ ∃ u, WrAt X B W (runL (eField wayR) x.fields (rCount n20 32 (s)) q) u ∧ Gr X v w u W ∧ Loc X w.heap.size u W ∧ (∀ j (h : j < [.slice A19 n20 cap21, .slice A27 n28 cap29, .slice A35 n36 cap37, .slice A43 n44 cap45, .slice A51 n52 cap53, .slice A59 n60 cap61, .slice A67 n68 cap69, .slice A75 n76 cap77, .int .i64 x.maxBatch, .int .i64 x.budget].length), W.cell? ⟨w.heap.size, j, none⟩ = some ([.slice A19 n20 cap21, .slice A27 n28 cap29, .slice A35 n36 cap37, .slice A43 n44 cap45, .slice A51 n52 cap53, .slice A59 n60 cap61, .slice A67 n68 cap69, .slice A75 n76 cap77, .int .i64 x.maxBatch, .int .i64 x.budget][j]'h))) (fun i _ => n20 - (intOf i).toNat)
  case atStart => exact ⟨0, by omega, rfl, u101, HV104.out, HG105.out, HL108.out, HB109.out⟩
  case round =>
    obtain ⟨W115, hw116⟩ : ∃ x, x = wr := ⟨wr, rfl⟩
    subst hw116
    obtain ⟨q113, hq119, rfl, u114, hV120, hG121, l117, b118⟩ := hrel
    have HV122 := Lib.hid hV120
    have HG123 := Lib.hid hG121
    clear hV120 hG121
    have HL124 := Lib.hid l117
    have HB125 := Lib.hid b118
    clear l117 b118
    by_cases hqnq113 : q113 < n20
    · have hqiq113 : (q113 : Int) < (n20 : Int) := by omega
      have hq0q113 : 0 ≤ (q113 : Int) := by omega
      obtain ⟨eb127, eo128, ar133, y126, hx129, hL130⟩ := row_at HR26.out (q := q113) (by have := HN22.out; omega)
      subst ar133
      obtain ⟨hlt134, _, hc131, ⟨rfl, q135, q136, q137⟩⟩ := hL130
      have d138 : W115.cell? ⟨eb127, eo128 + q113 * 3, none⟩ = some (.int .i64 y126.id) := ((HG123.out.below HW.out hC).cell (p := ⟨eb127, eo128 + q113 * 3, none⟩) hlt134).trans (hc131 0 (by simp))
      have d139 : W115.cell? ⟨eb127, eo128 + q113 * 3 + 1, none⟩ = some (.string (strL y126.name)) := ((HG123.out.below HW.out hC).cell (p := ⟨eb127, eo128 + q113 * 3 + 1, none⟩) hlt134).trans (hc131 1 (by simp))
      have d140 : W115.cell? ⟨eb127, eo128 + q113 * 3 + 2, none⟩ = some (.int .i64 y126.bits) := ((HG123.out.below HW.out hC).cell (p := ⟨eb127, eo128 + q113 * 3 + 2, none⟩) hlt134).trans (hc131 2 (by simp))
      have HX132 := Lib.hid (runL_succ (eField wayR) (rCount n20 32 (s)) hx129)
      clear hc131 hx129
      have hb141 := HBq112.out (q113 + 1) (by omega)
      rw [HX132.out] at hb141
      obtain ⟨W142, hE143⟩ : ∃ W2, W2 = W115.alloc (.cells #[.int .i64 y126.id, .string (strL y126.name), .int .i64 y126.bits] 46) := ⟨_, rfl⟩
      have hbl145 : Below W115.heap.size W115 W142 := by rw [hE143]; exact (Below.refl _ _).alloc (Nat.le_refl _) _
      have HV146 := Lib.hid (HV122.out.below hbl145)
      have HG147 := Lib.hid (HG123.out.trans (Gr.of_below hbl145))
      have HL148 : Hid (Loc X W115.heap.size u114 W142) := Lib.hid (by rw [hE143]; exact Loc.new HV122.out _)
      have HB149 : Hid (∀ j (h : j < [.int .i64 y126.id, .string (strL y126.name), .int .i64 y126.bits].length), W142.cell? ⟨W115.heap.size, j, none⟩ = some ([.int .i64 y126.id, .string (strL y126.name), .int .i64 y126.bits][j]'h)) := Lib.hid (by rw [hE143]; intro j h; rw [World.cell?_alloc_new, List.getElem?_toArray]; exact List.getElem?_eq_getElem h)
      have HL150 : Hid (Loc X w.heap.size u114 W142) := Lib.hid ((Gr.of_below (X := X) (v := u114) hbl145).loc HL124.out).1
      have HB151 := Lib.hid (fun j (h : j < [.slice (some ⟨eb127, eo128, none⟩) n20 cap21, .slice A27 n28 cap29, .slice A35 n36 cap37, .slice A43 n44 cap45, .slice A51 n52 cap53, .slice A59 n60 cap61, .slice A67 n68 cap69, .slice A75 n76 cap77, .int .i64 x.maxBatch, .int .i64 x.budget].length) => (((Gr.of_below (X := X) (v := u114) hbl145).loc HL124.out).2 j).trans (HB125.out j h))
      have HE144 := Lib.hid hE143
      clear hE143 hbl145
      have Hb152 : (wNum 1 y126.bits (rText 24 y126.name (wNum 2 y126.id (runL (eField wayR) x.fields (rCount n20 32 (s)) q113)))).l.length ≤ 3800000 := hb141
      have Hb153 : (rText 24 y126.name (wNum 2 y126.id (runL (eField wayR) x.fields (rCount n20 32 (s)) q113))).l.length ≤ 3800000 := Nat.le_trans ((up_num 1 y126.bits) (rText 24 y126.name (wNum 2 y126.id (runL (eField wayR) x.fields (rCount n20 32 (s)) q113)))) Hb152
      have Hb154 : (wNum 2 y126.id (runL (eField wayR) x.fields (rCount n20 32 (s)) q113)).l.length ≤ 3800000 := Nat.le_trans ((up_rtext 24 y126.name) (wNum 2 y126.id (runL (eField wayR) x.fields (rCount n20 32 (s)) q113))) Hb153
      have Hb155 : (runL (eField wayR) x.fields (rCount n20 32 (s)) q113).l.length ≤ 3800000 := Nat.le_trans ((up_num 2 y126.id) (runL (eField wayR) x.fields (rCount n20 32 (s)) q113)) Hb154
      have HB156 := Lib.hid Hb155
      have HB157 := Lib.hid Hb154
      have HB158 := Lib.hid Hb153
      have HB159 := Lib.hid Hb152
      clear Hb155 Hb154 Hb153 Hb152
      clear hb141
      go_wp2_with fail
      rw [← HE144.out]
      refine (rwnum_any 2 (.inr rfl) y126.id q135 HV146.out (by have := HB156.out; omega)).mono ?_
      rintro e w160 ⟨rfl, u161, hv162, hg163⟩
      have HV164 := Lib.hid hv162
      have HG165 := Lib.hid (HG147.out.trans hg163)
      obtain ⟨l166, c167⟩ := hg163.loc HL150.out
      have HL168 := Lib.hid l166
      have HB169 := Lib.hid (fun j (h : j < [.slice (some ⟨eb127, eo128, none⟩) n20 cap21, .slice A27 n28 cap29, .slice A35 n36 cap37, .slice A43 n44 cap45, .slice A51 n52 cap53, .slice A59 n60 cap61, .slice A67 n68 cap69, .slice A75 n76 cap77, .int .i64 x.maxBatch, .int .i64 x.budget].length) => (c167 j).trans (HB151.out j h))
      clear l166 c167
      obtain ⟨l170, c171⟩ := hg163.loc HL148.out
      have HL172 := Lib.hid l170
      have HB173 := Lib.hid (fun j (h : j < [.int .i64 y126.id, .string (strL y126.name), .int .i64 y126.bits].length) => (c171 j).trans (HB149.out j h))
      clear l170 c171
      clear hv162 hg163
      have d174 : w160.cell? ⟨W115.heap.size, 1, none⟩ = some (.string (strL y126.name)) := HB173.out 1 (by simp)
      go_wp2_with fail
      refine (rwtext_any y126.name 24 (by decide) q136 HV164.out (by have := HB157.out; omega)).mono ?_
      rintro e w175 ⟨rfl, u176, hv177, hg178⟩
      have HV179 := Lib.hid hv177
      have HG180 := Lib.hid (HG165.out.trans hg178)
      obtain ⟨l181, c182⟩ := hg178.loc HL168.out
      have HL183 := Lib.hid l181
      have HB184 := Lib.hid (fun j (h : j < [.slice (some ⟨eb127, eo128, none⟩) n20 cap21, .slice A27 n28 cap29, .slice A35 n36 cap37, .slice A43 n44 cap45, .slice A51 n52 cap53, .slice A59 n60 cap61, .slice A67 n68 cap69, .slice A75 n76 cap77, .int .i64 x.maxBatch, .int .i64 x.budget].length) => (c182 j).trans (HB169.out j h))
      clear l181 c182
      obtain ⟨l185, c186⟩ := hg178.loc HL172.out
      have HL187 := Lib.hid l185
      have HB188 := Lib.hid (fun j (h : j < [.int .i64 y126.id, .string (strL y126.name), .int .i64 y126.bits].length) => (c186 j).trans (HB173.out j h))
      clear l185 c186
      clear hv177 hg178
      clear d174
      have d189 : w175.cell? ⟨W115.heap.size, 2, none⟩ = some (.int .i64 y126.bits) := HB188.out 2 (by simp)
      go_wp2_with fail
      refine (rwnum_any 1 (.inl rfl) y126.bits q137 HV179.out (by have := HB158.out; omega)).mono ?_
      rintro e w190 ⟨rfl, u191, hv192, hg193⟩
      have HV194 := Lib.hid hv192
      have HG195 := Lib.hid (HG180.out.trans hg193)
      obtain ⟨l196, c197⟩ := hg193.loc HL183.out
      have HL198 := Lib.hid l196
      have HB199 := Lib.hid (fun j (h : j < [.slice (some ⟨eb127, eo128, none⟩) n20 cap21, .slice A27 n28 cap29, .slice A35 n36 cap37, .slice A43 n44 cap45, .slice A51 n52 cap53, .slice A59 n60 cap61, .slice A67 n68 cap69, .slice A75 n76 cap77, .int .i64 x.maxBatch, .int .i64 x.budget].length) => (c197 j).trans (HB184.out j h))
      clear l196 c197
      obtain ⟨l200, c201⟩ := hg193.loc HL187.out
      have HL202 := Lib.hid l200
      have HB203 := Lib.hid (fun j (h : j < [.int .i64 y126.id, .string (strL y126.name), .int .i64 y126.bits].length) => (c201 j).trans (HB188.out j h))
      clear l200 c201
      clear hv192 hg193
      clear d189
      go_wp2_with fail
      go_roundw
      case rel => exact ⟨q113 + 1, by omega, by simp, u191, by rw [HX132.out]; exact HV194.out, HG195.out, HL198.out, HB199.out⟩
      case measure => simp [intOf]; omega
    · obtain rfl : n20 = q113 := by omega
      have HV204 : Hid (WrAt X B W115 (rList 32 (eField wayR) x.fields (s)) u114) := Lib.hid (by rw [rList_run, ← HN22.out]; exact HV122.out)
      have d205 : W115.cell? ⟨w.heap.size, 1, none⟩ = some (.slice A27 n28 cap29) := HB125.out 1 (by simp)
      go_wp2_with fail
      refine (rwcount_any n28 8 (by omega) HV204.out (by have := HB88.out; omega)).mono ?_
      rintro e w206 ⟨rfl, u207, hv208, hg209⟩
      have HV210 := Lib.hid hv208
      have HG211 := Lib.hid (HG123.out.trans hg209)
      obtain ⟨l212, c213⟩ := hg209.loc HL124.out
      have HL214 := Lib.hid l212
      have HB215 := Lib.hid (fun j (h : j < [.slice A19 n20 cap21, .slice A27 n28 cap29, .slice A35 n36 cap37, .slice A43 n44 cap45, .slice A51 n52 cap53, .slice A59 n60 cap61, .slice A67 n68 cap69, .slice A75 n76 cap77, .int .i64 x.maxBatch, .int .i64 x.budget].length) => (c213 j).trans (HB125.out j h))
      clear l212 c213
      clear hv208 hg209
      clear d205
      have d216 : w206.cell? ⟨w.heap.size, 1, none⟩ = some (.slice A27 n28 cap29) := HB215.out 1 (by simp)
      go_wp2_with fail
      clear d216
      have hb217 : ∀ q, q ≤ n28 → (runL (eHeader wayR) x.headers (rCount n28 8 (rList 32 (eField wayR) x.fields (s))) q).l.length ≤ 3800000 := fun q hq => runL_bound up_header hq (by have h := HB89.out; rw [rList_run, ← HN30.out] at h; exact h)
      have HBq218 := Lib.hid hb217
      clear hb217
      have h0n28 : 0 ≤ (n28 : Int) := by omega
      go_loopw [45] (fun i W => ∃ q : Nat, q ≤ n28 ∧ i = .int .i64 q ∧ ∃ u, WrAt X B W (runL (eHeader wayR) x.headers (rCount n28 8 (rList 32 (eField wayR) x.fields (s))) q) u ∧ Gr X v w u W ∧ Loc X w.heap.size u W ∧ (∀ j (h : j < [.slice A19 n20 cap21, .slice A27 n28 cap29, .slice A35 n36 cap37, .slice A43 n44 cap45, .slice A51 n52 cap53, .slice A59 n60 cap61, .slice A67 n68 cap69, .slice A75 n76 cap77, .int .i64 x.maxBatch, .int .i64 x.budget].length), W.cell? ⟨w.heap.size, j, none⟩ = some ([.slice A19 n20 cap21, .slice A27 n28 cap29, .slice A35 n36 cap37, .slice A43 n44 cap45, .slice A51 n52 cap53, .slice A59 n60 cap61, .slice A67 n68 cap69, .slice A75 n76 cap77, .int .i64 x.maxBatch, .int .i64 x.budget][j]'h))) (fun i _ => n28 - (intOf i).toNat)
      case atStart => exact ⟨0, by omega, rfl, u207, HV210.out, HG211.out, HL214.out, HB215.out⟩
      case round =>
        obtain ⟨W221, hw222⟩ : ∃ x, x = wr := ⟨wr, rfl⟩
        subst hw222
        obtain ⟨q219, hq225, rfl, u220, hV226, hG227, l223, b224⟩ := hrel
        have HV228 := Lib.hid hV226
        have HG229 := Lib.hid hG227
        clear hV226 hG227
        have HL230 := Lib.hid l223
        have HB231 := Lib.hid b224
        clear l223 b224
        by_cases hqnq219 : q219 < n28
        · have hqiq219 : (q219 : Int) < (n28 : Int) := by omega
          have hq0q219 : 0 ≤ (q219 : Int) := by omega
          obtain ⟨eb233, eo234, ar239, y232, hx235, hL236⟩ := row_at HR34.out (q := q219) (by have := HN30.out; omega)
          subst ar239
          obtain ⟨hlt240, _, hc237, ⟨sv241, rfl, q242, q243, q244⟩⟩ := hL236
          have hr249 := q244
          obtain ⟨A245, n246, cap247, rfl, HN248, nc250, cm251, _⟩ := q244
          unfold maxLen at cm251
          have HR252 := Lib.hid hr249
          clear hr249
          have d253 : W221.cell? ⟨eb233, eo234 + q219 * 3, none⟩ = some (.int .i64 y232.id) := ((HG229.out.below HW.out hC).cell (p := ⟨eb233, eo234 + q219 * 3, none⟩) hlt240).trans (hc237 0 (by simp))
          have d254 : W221.cell? ⟨eb233, eo234 + q219 * 3 + 1, none⟩ = some (.string (strL y232.name)) := ((HG229.out.below HW.out hC).cell (p := ⟨eb233, eo234 + q219 * 3 + 1, none⟩) hlt240).trans (hc237 1 (by simp))
          have d255 : W221.cell? ⟨eb233, eo234 + q219 * 3 + 2, none⟩ = some (.slice A245 n246 cap247) := ((HG229.out.below HW.out hC).cell (p := ⟨eb233, eo234 + q219 * 3 + 2, none⟩) hlt240).trans (hc237 2 (by simp))
          have HX238 := Lib.hid (runL_succ (eHeader wayR) (rCount n28 8 (rList 32 (eField wayR) x.fields (s))) hx235)
          clear hc237 hx235
          have hb256 := HBq218.out (q219 + 1) (by omega)
          rw [HX238.out] at hb256
          obtain ⟨W257, hE258⟩ : ∃ W2, W2 = W221.alloc (.cells #[.int .i64 y232.id, .string (strL y232.name), .slice A245 n246 cap247] 66) := ⟨_, rfl⟩
          have hbl260 : Below W221.heap.size W221 W257 := by rw [hE258]; exact (Below.refl _ _).alloc (Nat.le_refl _) _
          have HV261 := Lib.hid (HV228.out.below hbl260)
          have HG262 := Lib.hid (HG229.out.trans (Gr.of_below hbl260))
          have HL263 : Hid (Loc X W221.heap.size u220 W257) := Lib.hid (by rw [hE258]; exact Loc.new HV228.out _)
          have HB264 : Hid (∀ j (h : j < [.int .i64 y232.id, .string (strL y232.name), .slice A245 n246 cap247].length), W257.cell? ⟨W221.heap.size, j, none⟩ = some ([.int .i64 y232.id, .string (strL y232.name), .slice A245 n246 cap247][j]'h)) := Lib.hid (by rw [hE258]; intro j h; rw [World.cell?_alloc_new, List.getElem?_toArray]; exact List.getElem?_eq_getElem h)
          have HL265 : Hid (Loc X w.heap.size u220 W257) := Lib.hid ((Gr.of_below (X := X) (v := u220) hbl260).loc HL230.out).1
          have HB266 := Lib.hid (fun j (h : j < [.slice A19 n20 cap21, .slice (some ⟨eb233, eo234, none⟩) n28 cap29, .slice A35 n36 cap37, .slice A43 n44 cap45, .slice A51 n52 cap53, .slice A59 n60 cap61, .slice A67 n68 cap69, .slice A75 n76 cap77, .int .i64 x.maxBatch, .int .i64 x.budget].length) => (((Gr.of_below (X := X) (v := u220) hbl260).loc HL230.out).2 j).trans (HB231.out j h))
          have HE259 := Lib.hid hE258
          clear hE258 hbl260
          have Hb267 : (rList 32 (wNum 2) y232.fields (rText 24 y232.name (wNum 2 y232.id (runL (eHeader wayR) x.headers (rCount n28 8 (rList 32 (eField wayR) x.fields (s))) q219)))).l.length ≤ 3800000 := hb256
          have Hb268 : (rText 24 y232.name (wNum 2 y232.id (runL (eHeader wayR) x.headers (rCount n28 8 (rList 32 (eField wayR) x.fields (s))) q219))).l.length ≤ 3800000 := Nat.le_trans ((up_rlist 32 (up_num 2) y232.fields) (rText 24 y232.name (wNum 2 y232.id (runL (eHeader wayR) x.headers (rCount n28 8 (rList 32 (eField wayR) x.fields (s))) q219)))) Hb267
          have Hb269 : (wNum 2 y232.id (runL (eHeader wayR) x.headers (rCount n28 8 (rList 32 (eField wayR) x.fields (s))) q219)).l.length ≤ 3800000 := Nat.le_trans ((up_rtext 24 y232.name) (wNum 2 y232.id (runL (eHeader wayR) x.headers (rCount n28 8 (rList 32 (eField wayR) x.fields (s))) q219))) Hb268
          have Hb270 : (runL (eHeader wayR) x.headers (rCount n28 8 (rList 32 (eField wayR) x.fields (s))) q219).l.length ≤ 3800000 := Nat.le_trans ((up_num 2 y232.id) (runL (eHeader wayR) x.headers (rCount n28 8 (rList 32 (eField wayR) x.fields (s))) q219)) Hb269
          have HB271 := Lib.hid Hb270
          have HB272 := Lib.hid Hb269
          have HB273 := Lib.hid Hb268
          have HB274 := Lib.hid Hb267
          clear Hb270 Hb269 Hb268 Hb267
          clear hb256
          go_wp2_with fail
          rw [← HE259.out]
          refine (rwnum_any 2 (.inr rfl) y232.id q242 HV261.out (by have := HB271.out; omega)).mono ?_
          rintro e w275 ⟨rfl, u276, hv277, hg278⟩
          have HV279 := Lib.hid hv277
          have HG280 := Lib.hid (HG262.out.trans hg278)
          obtain ⟨l281, c282⟩ := hg278.loc HL265.out
          have HL283 := Lib.hid l281
          have HB284 := Lib.hid (fun j (h : j < [.slice A19 n20 cap21, .slice (some ⟨eb233, eo234, none⟩) n28 cap29, .slice A35 n36 cap37, .slice A43 n44 cap45, .slice A51 n52 cap53, .slice A59 n60 cap61, .slice A67 n68 cap69, .slice A75 n76 cap77, .int .i64 x.maxBatch, .int .i64 x.budget].length) => (c282 j).trans (HB266.out j h))
          clear l281 c282
          obtain ⟨l285, c286⟩ := hg278.loc HL263.out
          have HL287 := Lib.hid l285
          have HB288 := Lib.hid (fun j (h : j < [.int .i64 y232.id, .string (strL y232.name), .slice A245 n246 cap247].length) => (c286 j).trans (HB264.out j h))
          clear l285 c286
          clear hv277 hg278
          have d289 : w275.cell? ⟨W221.heap.size, 1, none⟩ = some (.string (strL y232.name)) := HB288.out 1 (by simp)
          go_wp2_with fail
          refine (rwtext_any y232.name 24 (by decide) q243 HV279.out (by have := HB272.out; omega)).mono ?_
          rintro e w290 ⟨rfl, u291, hv292, hg293⟩
          have HV294 := Lib.hid hv292
          have HG295 := Lib.hid (HG280.out.trans hg293)
          obtain ⟨l296, c297⟩ := hg293.loc HL283.out
          have HL298 := Lib.hid l296
          have HB299 := Lib.hid (fun j (h : j < [.slice A19 n20 cap21, .slice (some ⟨eb233, eo234, none⟩) n28 cap29, .slice A35 n36 cap37, .slice A43 n44 cap45, .slice A51 n52 cap53, .slice A59 n60 cap61, .slice A67 n68 cap69, .slice A75 n76 cap77, .int .i64 x.maxBatch, .int .i64 x.budget].length) => (c297 j).trans (HB284.out j h))
          clear l296 c297
          obtain ⟨l300, c301⟩ := hg293.loc HL287.out
          have HL302 := Lib.hid l300
          have HB303 := Lib.hid (fun j (h : j < [.int .i64 y232.id, .string (strL y232.name), .slice A245 n246 cap247].length) => (c301 j).trans (HB288.out j h))
          clear l300 c301
          clear hv292 hg293
          clear d289
          have d304 : w290.cell? ⟨W221.heap.size, 2, none⟩ = some (.slice A245 n246 cap247) := HB303.out 2 (by simp)
          go_wp2_with fail
          refine (rwnums_any y232.fields 32 _ (HR252.out.below kept_int (HG295.out.below HW.out hC)) hC HV294.out HB274.out).mono ?_
          rintro e w305 ⟨rfl, u306, hv307, hg308⟩
          have HV309 := Lib.hid hv307
          have HG310 := Lib.hid (HG295.out.trans hg308)
          obtain ⟨l311, c312⟩ := hg308.loc HL298.out
          have HL313 := Lib.hid l311
          have HB314 := Lib.hid (fun j (h : j < [.slice A19 n20 cap21, .slice (some ⟨eb233, eo234, none⟩) n28 cap29, .slice A35 n36 cap37, .slice A43 n44 cap45, .slice A51 n52 cap53, .slice A59 n60 cap61, .slice A67 n68 cap69, .slice A75 n76 cap77, .int .i64 x.maxBatch, .int .i64 x.budget].length) => (c312 j).trans (HB299.out j h))
          clear l311 c312
          obtain ⟨l315, c316⟩ := hg308.loc HL302.out
          have HL317 := Lib.hid l315
          have HB318 := Lib.hid (fun j (h : j < [.int .i64 y232.id, .string (strL y232.name), .slice A245 n246 cap247].length) => (c316 j).trans (HB303.out j h))
          clear l315 c316
          clear hv307 hg308
          clear d304
          go_wp2_with fail
          go_roundw
          case rel => exact ⟨q219 + 1, by omega, by simp, u306, by rw [HX238.out]; exact HV309.out, HG310.out, HL313.out, HB314.out⟩
          case measure => simp [intOf]; omega
        · obtain rfl : n28 = q219 := by omega
          have HV319 : Hid (WrAt X B W221 (rList 8 (eHeader wayR) x.headers (rList 32 (eField wayR) x.fields (s))) u220) := Lib.hid (by rw [rList_run, ← HN30.out]; exact HV228.out)
          have d320 : W221.cell? ⟨w.heap.size, 2, none⟩ = some (.slice A35 n36 cap37) := HB231.out 2 (by simp)
          go_wp2_with fail
          refine (rwcount_any n36 12 (by omega) HV319.out (by have := HB89.out; omega)).mono ?_
          rintro e w321 ⟨rfl, u322, hv323, hg324⟩
          have HV325 := Lib.hid hv323
          have HG326 := Lib.hid (HG229.out.trans hg324)
          obtain ⟨l327, c328⟩ := hg324.loc HL230.out
          have HL329 := Lib.hid l327
          have HB330 := Lib.hid (fun j (h : j < [.slice A19 n20 cap21, .slice A27 n28 cap29, .slice A35 n36 cap37, .slice A43 n44 cap45, .slice A51 n52 cap53, .slice A59 n60 cap61, .slice A67 n68 cap69, .slice A75 n76 cap77, .int .i64 x.maxBatch, .int .i64 x.budget].length) => (c328 j).trans (HB231.out j h))
          clear l327 c328
          clear hv323 hg324
          clear d320
          have d331 : w321.cell? ⟨w.heap.size, 2, none⟩ = some (.slice A35 n36 cap37) := HB330.out 2 (by simp)
          go_wp2_with fail
          clear d331
          have hb332 : ∀ q, q ≤ n36 → (runL (eState wayR) x.states (rCount n36 12 (rList 8 (eHeader wayR) x.headers (rList 32 (eField wayR) x.fields (s)))) q).l.length ≤ 3800000 := fun q hq => runL_bound up_state hq (by have h := HB90.out; rw [rList_run, ← HN38.out] at h; exact h)
          have HBq333 := Lib.hid hb332
          clear hb332
          have h0n36 : 0 ≤ (n36 : Int) := by omega
          go_loopw [70] (fun i W => ∃ q : Nat, q ≤ n36 ∧ i = .int .i64 q ∧ ∃ u, WrAt X B W (runL (eState wayR) x.states (rCount n36 12 (rList 8 (eHeader wayR) x.headers (rList 32 (eField wayR) x.fields (s)))) q) u ∧ Gr X v w u W ∧ Loc X w.heap.size u W ∧ (∀ j (h : j < [.slice A19 n20 cap21, .slice A27 n28 cap29, .slice A35 n36 cap37, .slice A43 n44 cap45, .slice A51 n52 cap53, .slice A59 n60 cap61, .slice A67 n68 cap69, .slice A75 n76 cap77, .int .i64 x.maxBatch, .int .i64 x.budget].length), W.cell? ⟨w.heap.size, j, none⟩ = some ([.slice A19 n20 cap21, .slice A27 n28 cap29, .slice A35 n36 cap37, .slice A43 n44 cap45, .slice A51 n52 cap53, .slice A59 n60 cap61, .slice A67 n68 cap69, .slice A75 n76 cap77, .int .i64 x.maxBatch, .int .i64 x.budget][j]'h))) (fun i _ => n36 - (intOf i).toNat)
          case atStart => exact ⟨0, by omega, rfl, u322, HV325.out, HG326.out, HL329.out, HB330.out⟩
          case round =>
            obtain ⟨W336, hw337⟩ : ∃ x, x = wr := ⟨wr, rfl⟩
            subst hw337
            obtain ⟨q334, hq340, rfl, u335, hV341, hG342, l338, b339⟩ := hrel
            have HV343 := Lib.hid hV341
            have HG344 := Lib.hid hG342
            clear hV341 hG342
            have HL345 := Lib.hid l338
            have HB346 := Lib.hid b339
            clear l338 b339
            by_cases hqnq334 : q334 < n36
            · have hqiq334 : (q334 : Int) < (n36 : Int) := by omega
              have hq0q334 : 0 ≤ (q334 : Int) := by omega
              obtain ⟨eb348, eo349, ar354, y347, hx350, hL351⟩ := row_at HR42.out (q := q334) (by have := HN38.out; omega)
              subst ar354
              obtain ⟨hlt355, _, hc352, ⟨sv356, rfl, q357, q358, q359, q360, q361⟩⟩ := hL351
              have hr366 := q360
              obtain ⟨A362, n363, cap364, rfl, HN365, nc367, cm368, _⟩ := q360
              unfold maxLen at cm368
              have HR369 := Lib.hid hr366
              clear hr366
              have d370 : W336.cell? ⟨eb348, eo349 + q334 * 5, none⟩ = some (.int .i64 y347.id) := ((HG344.out.below HW.out hC).cell (p := ⟨eb348, eo349 + q334 * 5, none⟩) hlt355).trans (hc352 0 (by simp))
              have d371 : W336.cell? ⟨eb348, eo349 + q334 * 5 + 1, none⟩ = some (.int .i64 y347.header) := ((HG344.out.below HW.out hC).cell (p := ⟨eb348, eo349 + q334 * 5 + 1, none⟩) hlt355).trans (hc352 1 (by simp))
              have d372 : W336.cell? ⟨eb348, eo349 + q334 * 5 + 2, none⟩ = some (.int .i64 y347.select) := ((HG344.out.below HW.out hC).cell (p := ⟨eb348, eo349 + q334 * 5 + 2, none⟩) hlt355).trans (hc352 2 (by simp))
              have d373 : W336.cell? ⟨eb348, eo349 + q334 * 5 + 3, none⟩ = some (.slice A362 n363 cap364) := ((HG344.out.below HW.out hC).cell (p := ⟨eb348, eo349 + q334 * 5 + 3, none⟩) hlt355).trans (hc352 3 (by simp))
              have d374 : W336.cell? ⟨eb348, eo349 + q334 * 5 + 4, none⟩ = some (.int .i64 y347.dflt) := ((HG344.out.below HW.out hC).cell (p := ⟨eb348, eo349 + q334 * 5 + 4, none⟩) hlt355).trans (hc352 4 (by simp))
              have HX353 := Lib.hid (runL_succ (eState wayR) (rCount n36 12 (rList 8 (eHeader wayR) x.headers (rList 32 (eField wayR) x.fields (s)))) hx350)
              clear hc352 hx350
              have hb375 := HBq333.out (q334 + 1) (by omega)
              rw [HX353.out] at hb375
              obtain ⟨W376, hE377⟩ : ∃ W2, W2 = W336.alloc (.cells #[.int .i64 y347.id, .int .i64 y347.header, .int .i64 y347.select, .slice A362 n363 cap364, .int .i64 y347.dflt] 106) := ⟨_, rfl⟩
              have hbl379 : Below W336.heap.size W336 W376 := by rw [hE377]; exact (Below.refl _ _).alloc (Nat.le_refl _) _
              have HV380 := Lib.hid (HV343.out.below hbl379)
              have HG381 := Lib.hid (HG344.out.trans (Gr.of_below hbl379))
              have HL382 : Hid (Loc X W336.heap.size u335 W376) := Lib.hid (by rw [hE377]; exact Loc.new HV343.out _)
              have HB383 : Hid (∀ j (h : j < [.int .i64 y347.id, .int .i64 y347.header, .int .i64 y347.select, .slice A362 n363 cap364, .int .i64 y347.dflt].length), W376.cell? ⟨W336.heap.size, j, none⟩ = some ([.int .i64 y347.id, .int .i64 y347.header, .int .i64 y347.select, .slice A362 n363 cap364, .int .i64 y347.dflt][j]'h)) := Lib.hid (by rw [hE377]; intro j h; rw [World.cell?_alloc_new, List.getElem?_toArray]; exact List.getElem?_eq_getElem h)
              have HL384 : Hid (Loc X w.heap.size u335 W376) := Lib.hid ((Gr.of_below (X := X) (v := u335) hbl379).loc HL345.out).1
              have HB385 := Lib.hid (fun j (h : j < [.slice A19 n20 cap21, .slice A27 n28 cap29, .slice (some ⟨eb348, eo349, none⟩) n36 cap37, .slice A43 n44 cap45, .slice A51 n52 cap53, .slice A59 n60 cap61, .slice A67 n68 cap69, .slice A75 n76 cap77, .int .i64 x.maxBatch, .int .i64 x.budget].length) => (((Gr.of_below (X := X) (v := u335) hbl379).loc HL345.out).2 j).trans (HB346.out j h))
              have HE378 := Lib.hid hE377
              clear hE377 hbl379
              have Hb386 : (wNum 2 y347.dflt (rList 6 eCase y347.cases (wNum 2 y347.select (wNum 2 y347.header (wNum 2 y347.id (runL (eState wayR) x.states (rCount n36 12 (rList 8 (eHeader wayR) x.headers (rList 32 (eField wayR) x.fields (s)))) q334)))))).l.length ≤ 3800000 := hb375
              have Hb387 : (rList 6 eCase y347.cases (wNum 2 y347.select (wNum 2 y347.header (wNum 2 y347.id (runL (eState wayR) x.states (rCount n36 12 (rList 8 (eHeader wayR) x.headers (rList 32 (eField wayR) x.fields (s)))) q334))))).l.length ≤ 3800000 := Nat.le_trans ((up_num 2 y347.dflt) (rList 6 eCase y347.cases (wNum 2 y347.select (wNum 2 y347.header (wNum 2 y347.id (runL (eState wayR) x.states (rCount n36 12 (rList 8 (eHeader wayR) x.headers (rList 32 (eField wayR) x.fields (s)))) q334)))))) Hb386
              have Hb388 : (wNum 2 y347.select (wNum 2 y347.header (wNum 2 y347.id (runL (eState wayR) x.states (rCount n36 12 (rList 8 (eHeader wayR) x.headers (rList 32 (eField wayR) x.fields (s)))) q334)))).l.length ≤ 3800000 := Nat.le_trans ((up_rlist 6 up_case y347.cases) (wNum 2 y347.select (wNum 2 y347.header (wNum 2 y347.id (runL (eState wayR) x.states (rCount n36 12 (rList 8 (eHeader wayR) x.headers (rList 32 (eField wayR) x.fields (s)))) q334))))) Hb387
              have Hb389 : (wNum 2 y347.header (wNum 2 y347.id (runL (eState wayR) x.states (rCount n36 12 (rList 8 (eHeader wayR) x.headers (rList 32 (eField wayR) x.fields (s)))) q334))).l.length ≤ 3800000 := Nat.le_trans ((up_num 2 y347.select) (wNum 2 y347.header (wNum 2 y347.id (runL (eState wayR) x.states (rCount n36 12 (rList 8 (eHeader wayR) x.headers (rList 32 (eField wayR) x.fields (s)))) q334)))) Hb388
              have Hb390 : (wNum 2 y347.id (runL (eState wayR) x.states (rCount n36 12 (rList 8 (eHeader wayR) x.headers (rList 32 (eField wayR) x.fields (s)))) q334)).l.length ≤ 3800000 := Nat.le_trans ((up_num 2 y347.header) (wNum 2 y347.id (runL (eState wayR) x.states (rCount n36 12 (rList 8 (eHeader wayR) x.headers (rList 32 (eField wayR) x.fields (s)))) q334))) Hb389
              have Hb391 : (runL (eState wayR) x.states (rCount n36 12 (rList 8 (eHeader wayR) x.headers (rList 32 (eField wayR) x.fields (s)))) q334).l.length ≤ 3800000 := Nat.le_trans ((up_num 2 y347.id) (runL (eState wayR) x.states (rCount n36 12 (rList 8 (eHeader wayR) x.headers (rList 32 (eField wayR) x.fields (s)))) q334)) Hb390
              have HB392 := Lib.hid Hb391
              have HB393 := Lib.hid Hb390
              have HB394 := Lib.hid Hb389
              have HB395 := Lib.hid Hb388
              have HB396 := Lib.hid Hb387
              have HB397 := Lib.hid Hb386
              clear Hb391 Hb390 Hb389 Hb388 Hb387 Hb386
              clear hb375
              go_wp2_with fail
              rw [← HE378.out]
              refine (rwnum_any 2 (.inr rfl) y347.id q357 HV380.out (by have := HB392.out; omega)).mono ?_
              rintro e w398 ⟨rfl, u399, hv400, hg401⟩
              have HV402 := Lib.hid hv400
              have HG403 := Lib.hid (HG381.out.trans hg401)
              obtain ⟨l404, c405⟩ := hg401.loc HL384.out
              have HL406 := Lib.hid l404
              have HB407 := Lib.hid (fun j (h : j < [.slice A19 n20 cap21, .slice A27 n28 cap29, .slice (some ⟨eb348, eo349, none⟩) n36 cap37, .slice A43 n44 cap45, .slice A51 n52 cap53, .slice A59 n60 cap61, .slice A67 n68 cap69, .slice A75 n76 cap77, .int .i64 x.maxBatch, .int .i64 x.budget].length) => (c405 j).trans (HB385.out j h))
              clear l404 c405
              obtain ⟨l408, c409⟩ := hg401.loc HL382.out
              have HL410 := Lib.hid l408
              have HB411 := Lib.hid (fun j (h : j < [.int .i64 y347.id, .int .i64 y347.header, .int .i64 y347.select, .slice A362 n363 cap364, .int .i64 y347.dflt].length) => (c409 j).trans (HB383.out j h))
              clear l408 c409
              clear hv400 hg401
              have d412 : w398.cell? ⟨W336.heap.size, 1, none⟩ = some (.int .i64 y347.header) := HB411.out 1 (by simp)
              go_wp2_with fail
              refine (rwnum_any 2 (.inr rfl) y347.header q358 HV402.out (by have := HB393.out; omega)).mono ?_
              rintro e w413 ⟨rfl, u414, hv415, hg416⟩
              have HV417 := Lib.hid hv415
              have HG418 := Lib.hid (HG403.out.trans hg416)
              obtain ⟨l419, c420⟩ := hg416.loc HL406.out
              have HL421 := Lib.hid l419
              have HB422 := Lib.hid (fun j (h : j < [.slice A19 n20 cap21, .slice A27 n28 cap29, .slice (some ⟨eb348, eo349, none⟩) n36 cap37, .slice A43 n44 cap45, .slice A51 n52 cap53, .slice A59 n60 cap61, .slice A67 n68 cap69, .slice A75 n76 cap77, .int .i64 x.maxBatch, .int .i64 x.budget].length) => (c420 j).trans (HB407.out j h))
              clear l419 c420
              obtain ⟨l423, c424⟩ := hg416.loc HL410.out
              have HL425 := Lib.hid l423
              have HB426 := Lib.hid (fun j (h : j < [.int .i64 y347.id, .int .i64 y347.header, .int .i64 y347.select, .slice A362 n363 cap364, .int .i64 y347.dflt].length) => (c424 j).trans (HB411.out j h))
              clear l423 c424
              clear hv415 hg416
              clear d412
              have d427 : w413.cell? ⟨W336.heap.size, 2, none⟩ = some (.int .i64 y347.select) := HB426.out 2 (by simp)
              go_wp2_with fail
              refine (rwnum_any 2 (.inr rfl) y347.select q359 HV417.out (by have := HB394.out; omega)).mono ?_
              rintro e w428 ⟨rfl, u429, hv430, hg431⟩
              have HV432 := Lib.hid hv430
              have HG433 := Lib.hid (HG418.out.trans hg431)
              obtain ⟨l434, c435⟩ := hg431.loc HL421.out
              have HL436 := Lib.hid l434
              have HB437 := Lib.hid (fun j (h : j < [.slice A19 n20 cap21, .slice A27 n28 cap29, .slice (some ⟨eb348, eo349, none⟩) n36 cap37, .slice A43 n44 cap45, .slice A51 n52 cap53, .slice A59 n60 cap61, .slice A67 n68 cap69, .slice A75 n76 cap77, .int .i64 x.maxBatch, .int .i64 x.budget].length) => (c435 j).trans (HB422.out j h))
              clear l434 c435
              obtain ⟨l438, c439⟩ := hg431.loc HL425.out
              have HL440 := Lib.hid l438
              have HB441 := Lib.hid (fun j (h : j < [.int .i64 y347.id, .int .i64 y347.header, .int .i64 y347.select, .slice A362 n363 cap364, .int .i64 y347.dflt].length) => (c439 j).trans (HB426.out j h))
              clear l438 c439
              clear hv430 hg431
              clear d427
              have d442 : w428.cell? ⟨W336.heap.size, 3, none⟩ = some (.slice A362 n363 cap364) := HB441.out 3 (by simp)
              go_wp2_with fail
              refine (rwcount_any n363 6 (by omega) HV432.out (by have := HB395.out; omega)).mono ?_
              rintro e w443 ⟨rfl, u444, hv445, hg446⟩
              have HV447 := Lib.hid hv445
              have HG448 := Lib.hid (HG433.out.trans hg446)
              obtain ⟨l449, c450⟩ := hg446.loc HL436.out
              have HL451 := Lib.hid l449
              have HB452 := Lib.hid (fun j (h : j < [.slice A19 n20 cap21, .slice A27 n28 cap29, .slice (some ⟨eb348, eo349, none⟩) n36 cap37, .slice A43 n44 cap45, .slice A51 n52 cap53, .slice A59 n60 cap61, .slice A67 n68 cap69, .slice A75 n76 cap77, .int .i64 x.maxBatch, .int .i64 x.budget].length) => (c450 j).trans (HB437.out j h))
              clear l449 c450
              obtain ⟨l453, c454⟩ := hg446.loc HL440.out
              have HL455 := Lib.hid l453
              have HB456 := Lib.hid (fun j (h : j < [.int .i64 y347.id, .int .i64 y347.header, .int .i64 y347.select, .slice A362 n363 cap364, .int .i64 y347.dflt].length) => (c454 j).trans (HB441.out j h))
              clear l453 c454
              clear hv445 hg446
              clear d442
              have d457 : w443.cell? ⟨W336.heap.size, 3, none⟩ = some (.slice A362 n363 cap364) := HB456.out 3 (by simp)
              go_wp2_with fail
              clear d457
              have hb458 : ∀ q, q ≤ n363 → (runL eCase y347.cases (rCount n363 6 (wNum 2 y347.select (wNum 2 y347.header (wNum 2 y347.id (runL (eState wayR) x.states (rCount n36 12 (rList 8 (eHeader wayR) x.headers (rList 32 (eField wayR) x.fields (s)))) q334))))) q).l.length ≤ 3800000 := fun q hq => runL_bound up_case hq (by have h := HB396.out; rw [rList_run, ← HN365.out] at h; exact h)
              have HBq459 := Lib.hid hb458
              clear hb458
              have h0n363 : 0 ≤ (n363 : Int) := by omega
              go_loopw [94] (fun i W => ∃ q : Nat, q ≤ n363 ∧ i = .int .i64 q ∧ ∃ u, WrAt X B W (runL eCase y347.cases (rCount n363 6 (wNum 2 y347.select (wNum 2 y347.header (wNum 2 y347.id (runL (eState wayR) x.states (rCount n36 12 (rList 8 (eHeader wayR) x.headers (rList 32 (eField wayR) x.fields (s)))) q334))))) q) u ∧ Gr X v w u W ∧ Loc X w.heap.size u W ∧ (∀ j (h : j < [.slice A19 n20 cap21, .slice A27 n28 cap29, .slice (some ⟨eb348, eo349, none⟩) n36 cap37, .slice A43 n44 cap45, .slice A51 n52 cap53, .slice A59 n60 cap61, .slice A67 n68 cap69, .slice A75 n76 cap77, .int .i64 x.maxBatch, .int .i64 x.budget].length), W.cell? ⟨w.heap.size, j, none⟩ = some ([.slice A19 n20 cap21, .slice A27 n28 cap29, .slice (some ⟨eb348, eo349, none⟩) n36 cap37, .slice A43 n44 cap45, .slice A51 n52 cap53, .slice A59 n60 cap61, .slice A67 n68 cap69, .slice A75 n76 cap77, .int .i64 x.maxBatch, .int .i64 x.budget][j]'h)) ∧ Loc X W336.heap.size u W ∧ (∀ j (h : j < [.int .i64 y347.id, .int .i64 y347.header, .int .i64 y347.select, .slice A362 n363 cap364, .int .i64 y347.dflt].length), W.cell? ⟨W336.heap.size, j, none⟩ = some ([.int .i64 y347.id, .int .i64 y347.header, .int .i64 y347.select, .slice A362 n363 cap364, .int .i64 y347.dflt][j]'h))) (fun i _ => n363 - (intOf i).toNat)
              case atStart => exact ⟨0, by omega, rfl, u444, HV447.out, HG448.out, HL451.out, HB452.out, HL455.out, HB456.out⟩
              case round =>
                obtain ⟨W462, hw463⟩ : ∃ x, x = wr := ⟨wr, rfl⟩
                subst hw463
                obtain ⟨q460, hq468, rfl, u461, hV469, hG470, l464, b465, l466, b467⟩ := hrel
                have HV471 := Lib.hid hV469
                have HG472 := Lib.hid hG470
                clear hV469 hG470
                have HL473 := Lib.hid l464
                have HB474 := Lib.hid b465
                clear l464 b465
                have HL475 := Lib.hid l466
                have HB476 := Lib.hid b467
                clear l466 b467
                by_cases hqnq460 : q460 < n363
                · have hqiq460 : (q460 : Int) < (n363 : Int) := by omega
                  have hq0q460 : 0 ≤ (q460 : Int) := by omega
                  obtain ⟨eb478, eo479, ar484, y477, hx480, hL481⟩ := row_at HR369.out (q := q460) (by have := HN365.out; omega)
                  subst ar484
                  obtain ⟨hlt485, _, hc482, ⟨rfl, q486, q487, q488⟩⟩ := hL481
                  have d489 : W462.cell? ⟨eb478, eo479 + q460 * 5, none⟩ = some (.int .u64 (hi y477.val)) := ((HG472.out.below HW.out hC).cell (p := ⟨eb478, eo479 + q460 * 5, none⟩) hlt485).trans (hc482 0 (by simp))
                  have d490 : W462.cell? ⟨eb478, eo479 + q460 * 5 + 1, none⟩ = some (.int .u64 (lo y477.val)) := ((HG472.out.below HW.out hC).cell (p := ⟨eb478, eo479 + q460 * 5 + 1, none⟩) hlt485).trans (hc482 1 (by simp))
                  have d491 : W462.cell? ⟨eb478, eo479 + q460 * 5 + 2, none⟩ = some (.int .u64 (hi y477.mask)) := ((HG472.out.below HW.out hC).cell (p := ⟨eb478, eo479 + q460 * 5 + 2, none⟩) hlt485).trans (hc482 2 (by simp))
                  have d492 : W462.cell? ⟨eb478, eo479 + q460 * 5 + 3, none⟩ = some (.int .u64 (lo y477.mask)) := ((HG472.out.below HW.out hC).cell (p := ⟨eb478, eo479 + q460 * 5 + 3, none⟩) hlt485).trans (hc482 3 (by simp))
                  have d493 : W462.cell? ⟨eb478, eo479 + q460 * 5 + 4, none⟩ = some (.int .i64 y477.next) := ((HG472.out.below HW.out hC).cell (p := ⟨eb478, eo479 + q460 * 5 + 4, none⟩) hlt485).trans (hc482 4 (by simp))
                  have HX483 := Lib.hid (runL_succ eCase (rCount n363 6 (wNum 2 y347.select (wNum 2 y347.header (wNum 2 y347.id (runL (eState wayR) x.states (rCount n36 12 (rList 8 (eHeader wayR) x.headers (rList 32 (eField wayR) x.fields (s)))) q334))))) hx480)
                  clear hc482 hx480
                  have hb494 := HBq459.out (q460 + 1) (by omega)
                  rw [HX483.out] at hb494
                  obtain ⟨W495, hE496⟩ : ∃ W2, W2 = W462.alloc (.cells #[.int .u64 (hi y477.val), .int .u64 (lo y477.val), .int .u64 (hi y477.mask), .int .u64 (lo y477.mask), .int .i64 y477.next] 108) := ⟨_, rfl⟩
                  have hbl498 : Below W462.heap.size W462 W495 := by rw [hE496]; exact (Below.refl _ _).alloc (Nat.le_refl _) _
                  have HV499 := Lib.hid (HV471.out.below hbl498)
                  have HG500 := Lib.hid (HG472.out.trans (Gr.of_below hbl498))
                  have HL501 : Hid (Loc X W462.heap.size u461 W495) := Lib.hid (by rw [hE496]; exact Loc.new HV471.out _)
                  have HB502 : Hid (∀ j (h : j < [.int .u64 (hi y477.val), .int .u64 (lo y477.val), .int .u64 (hi y477.mask), .int .u64 (lo y477.mask), .int .i64 y477.next].length), W495.cell? ⟨W462.heap.size, j, none⟩ = some ([.int .u64 (hi y477.val), .int .u64 (lo y477.val), .int .u64 (hi y477.mask), .int .u64 (lo y477.mask), .int .i64 y477.next][j]'h)) := Lib.hid (by rw [hE496]; intro j h; rw [World.cell?_alloc_new, List.getElem?_toArray]; exact List.getElem?_eq_getElem h)
                  have HL503 : Hid (Loc X w.heap.size u461 W495) := Lib.hid ((Gr.of_below (X := X) (v := u461) hbl498).loc HL473.out).1
                  have HB504 := Lib.hid (fun j (h : j < [.slice A19 n20 cap21, .slice A27 n28 cap29, .slice (some ⟨eb348, eo349, none⟩) n36 cap37, .slice A43 n44 cap45, .slice A51 n52 cap53, .slice A59 n60 cap61, .slice A67 n68 cap69, .slice A75 n76 cap77, .int .i64 x.maxBatch, .int .i64 x.budget].length) => (((Gr.of_below (X := X) (v := u461) hbl498).loc HL473.out).2 j).trans (HB474.out j h))
                  have HL505 : Hid (Loc X W336.heap.size u461 W495) := Lib.hid ((Gr.of_below (X := X) (v := u461) hbl498).loc HL475.out).1
                  have HB506 := Lib.hid (fun j (h : j < [.int .i64 y347.id, .int .i64 y347.header, .int .i64 y347.select, .slice (some ⟨eb478, eo479, none⟩) n363 cap364, .int .i64 y347.dflt].length) => (((Gr.of_below (X := X) (v := u461) hbl498).loc HL475.out).2 j).trans (HB476.out j h))
                  have HE497 := Lib.hid hE496
                  clear hE496 hbl498
                  have Hb507 : (wNum 2 y477.next (wVal y477.mask (wVal y477.val (runL eCase y347.cases (rCount n363 6 (wNum 2 y347.select (wNum 2 y347.header (wNum 2 y347.id (runL (eState wayR) x.states (rCount n36 12 (rList 8 (eHeader wayR) x.headers (rList 32 (eField wayR) x.fields (s)))) q334))))) q460)))).l.length ≤ 3800000 := hb494
                  have Hb508 : (wVal y477.mask (wVal y477.val (runL eCase y347.cases (rCount n363 6 (wNum 2 y347.select (wNum 2 y347.header (wNum 2 y347.id (runL (eState wayR) x.states (rCount n36 12 (rList 8 (eHeader wayR) x.headers (rList 32 (eField wayR) x.fields (s)))) q334))))) q460))).l.length ≤ 3800000 := Nat.le_trans ((up_num 2 y477.next) (wVal y477.mask (wVal y477.val (runL eCase y347.cases (rCount n363 6 (wNum 2 y347.select (wNum 2 y347.header (wNum 2 y347.id (runL (eState wayR) x.states (rCount n36 12 (rList 8 (eHeader wayR) x.headers (rList 32 (eField wayR) x.fields (s)))) q334))))) q460)))) Hb507
                  have Hb509 : (wVal y477.val (runL eCase y347.cases (rCount n363 6 (wNum 2 y347.select (wNum 2 y347.header (wNum 2 y347.id (runL (eState wayR) x.states (rCount n36 12 (rList 8 (eHeader wayR) x.headers (rList 32 (eField wayR) x.fields (s)))) q334))))) q460)).l.length ≤ 3800000 := Nat.le_trans ((up_val y477.mask) (wVal y477.val (runL eCase y347.cases (rCount n363 6 (wNum 2 y347.select (wNum 2 y347.header (wNum 2 y347.id (runL (eState wayR) x.states (rCount n36 12 (rList 8 (eHeader wayR) x.headers (rList 32 (eField wayR) x.fields (s)))) q334))))) q460))) Hb508
                  have Hb510 : (runL eCase y347.cases (rCount n363 6 (wNum 2 y347.select (wNum 2 y347.header (wNum 2 y347.id (runL (eState wayR) x.states (rCount n36 12 (rList 8 (eHeader wayR) x.headers (rList 32 (eField wayR) x.fields (s)))) q334))))) q460).l.length ≤ 3800000 := Nat.le_trans ((up_val y477.val) (runL eCase y347.cases (rCount n363 6 (wNum 2 y347.select (wNum 2 y347.header (wNum 2 y347.id (runL (eState wayR) x.states (rCount n36 12 (rList 8 (eHeader wayR) x.headers (rList 32 (eField wayR) x.fields (s)))) q334))))) q460)) Hb509
                  have HB511 := Lib.hid Hb510
                  have HB512 := Lib.hid Hb509
                  have HB513 := Lib.hid Hb508
                  have HB514 := Lib.hid Hb507
                  clear Hb510 Hb509 Hb508 Hb507
                  clear hb494
                  go_wp2_with fail
                  rw [← HE497.out]
                  refine (rwval_any y477.val q486 HV499.out (by have := HB511.out; omega)).mono ?_
                  rintro e w515 ⟨rfl, u516, hv517, hg518⟩
                  have HV519 := Lib.hid hv517
                  have HG520 := Lib.hid (HG500.out.trans hg518)
                  obtain ⟨l521, c522⟩ := hg518.loc HL503.out
                  have HL523 := Lib.hid l521
                  have HB524 := Lib.hid (fun j (h : j < [.slice A19 n20 cap21, .slice A27 n28 cap29, .slice (some ⟨eb348, eo349, none⟩) n36 cap37, .slice A43 n44 cap45, .slice A51 n52 cap53, .slice A59 n60 cap61, .slice A67 n68 cap69, .slice A75 n76 cap77, .int .i64 x.maxBatch, .int .i64 x.budget].length) => (c522 j).trans (HB504.out j h))
                  clear l521 c522
                  obtain ⟨l525, c526⟩ := hg518.loc HL505.out
                  have HL527 := Lib.hid l525
                  have HB528 := Lib.hid (fun j (h : j < [.int .i64 y347.id, .int .i64 y347.header, .int .i64 y347.select, .slice (some ⟨eb478, eo479, none⟩) n363 cap364, .int .i64 y347.dflt].length) => (c526 j).trans (HB506.out j h))
                  clear l525 c526
                  obtain ⟨l529, c530⟩ := hg518.loc HL501.out
                  have HL531 := Lib.hid l529
                  have HB532 := Lib.hid (fun j (h : j < [.int .u64 (hi y477.val), .int .u64 (lo y477.val), .int .u64 (hi y477.mask), .int .u64 (lo y477.mask), .int .i64 y477.next].length) => (c530 j).trans (HB502.out j h))
                  clear l529 c530
                  clear hv517 hg518
                  have d533 : w515.cell? ⟨W462.heap.size, 2, none⟩ = some (.int .u64 (hi y477.mask)) := HB532.out 2 (by simp)
                  have d534 : w515.cell? ⟨W462.heap.size, 3, none⟩ = some (.int .u64 (lo y477.mask)) := HB532.out 3 (by simp)
                  go_wp2_with fail
                  refine (rwval_any y477.mask q487 HV519.out (by have := HB512.out; omega)).mono ?_
                  rintro e w535 ⟨rfl, u536, hv537, hg538⟩
                  have HV539 := Lib.hid hv537
                  have HG540 := Lib.hid (HG520.out.trans hg538)
                  obtain ⟨l541, c542⟩ := hg538.loc HL523.out
                  have HL543 := Lib.hid l541
                  have HB544 := Lib.hid (fun j (h : j < [.slice A19 n20 cap21, .slice A27 n28 cap29, .slice (some ⟨eb348, eo349, none⟩) n36 cap37, .slice A43 n44 cap45, .slice A51 n52 cap53, .slice A59 n60 cap61, .slice A67 n68 cap69, .slice A75 n76 cap77, .int .i64 x.maxBatch, .int .i64 x.budget].length) => (c542 j).trans (HB524.out j h))
                  clear l541 c542
                  obtain ⟨l545, c546⟩ := hg538.loc HL527.out
                  have HL547 := Lib.hid l545
                  have HB548 := Lib.hid (fun j (h : j < [.int .i64 y347.id, .int .i64 y347.header, .int .i64 y347.select, .slice (some ⟨eb478, eo479, none⟩) n363 cap364, .int .i64 y347.dflt].length) => (c546 j).trans (HB528.out j h))
                  clear l545 c546
                  obtain ⟨l549, c550⟩ := hg538.loc HL531.out
                  have HL551 := Lib.hid l549
                  have HB552 := Lib.hid (fun j (h : j < [.int .u64 (hi y477.val), .int .u64 (lo y477.val), .int .u64 (hi y477.mask), .int .u64 (lo y477.mask), .int .i64 y477.next].length) => (c550 j).trans (HB532.out j h))
                  clear l549 c550
                  clear hv537 hg538
                  clear d533 d534
                  have d553 : w535.cell? ⟨W462.heap.size, 4, none⟩ = some (.int .i64 y477.next) := HB552.out 4 (by simp)
                  go_wp2_with fail
                  refine (rwnum_any 2 (.inr rfl) y477.next q488 HV539.out (by have := HB513.out; omega)).mono ?_
                  rintro e w554 ⟨rfl, u555, hv556, hg557⟩
                  have HV558 := Lib.hid hv556
                  have HG559 := Lib.hid (HG540.out.trans hg557)
                  obtain ⟨l560, c561⟩ := hg557.loc HL543.out
                  have HL562 := Lib.hid l560
                  have HB563 := Lib.hid (fun j (h : j < [.slice A19 n20 cap21, .slice A27 n28 cap29, .slice (some ⟨eb348, eo349, none⟩) n36 cap37, .slice A43 n44 cap45, .slice A51 n52 cap53, .slice A59 n60 cap61, .slice A67 n68 cap69, .slice A75 n76 cap77, .int .i64 x.maxBatch, .int .i64 x.budget].length) => (c561 j).trans (HB544.out j h))
                  clear l560 c561
                  obtain ⟨l564, c565⟩ := hg557.loc HL547.out
                  have HL566 := Lib.hid l564
                  have HB567 := Lib.hid (fun j (h : j < [.int .i64 y347.id, .int .i64 y347.header, .int .i64 y347.select, .slice (some ⟨eb478, eo479, none⟩) n363 cap364, .int .i64 y347.dflt].length) => (c565 j).trans (HB548.out j h))
                  clear l564 c565
                  obtain ⟨l568, c569⟩ := hg557.loc HL551.out
                  have HL570 := Lib.hid l568
                  have HB571 := Lib.hid (fun j (h : j < [.int .u64 (hi y477.val), .int .u64 (lo y477.val), .int .u64 (hi y477.mask), .int .u64 (lo y477.mask), .int .i64 y477.next].length) => (c569 j).trans (HB552.out j h))
                  clear l568 c569
                  clear hv556 hg557
                  clear d553
                  go_wp2_with fail
                  go_roundw
                  case rel => exact ⟨q460 + 1, by omega, by simp, u555, by rw [HX483.out]; exact HV558.out, HG559.out, HL562.out, HB563.out, HL566.out, HB567.out⟩
                  case measure => simp [intOf]; omega
                · obtain rfl : n363 = q460 := by omega
                  have HV572 : Hid (WrAt X B W462 (rList 6 eCase y347.cases (wNum 2 y347.select (wNum 2 y347.header (wNum 2 y347.id (runL (eState wayR) x.states (rCount n36 12 (rList 8 (eHeader wayR) x.headers (rList 32 (eField wayR) x.fields (s)))) q334))))) u461) := Lib.hid (by rw [rList_run, ← HN365.out]; exact HV471.out)
                  have d573 : W462.cell? ⟨W336.heap.size, 4, none⟩ = some (.int .i64 y347.dflt) := HB476.out 4 (by simp)
                  go_wp2_with fail
                  refine (rwnum_any 2 (.inr rfl) y347.dflt q361 HV572.out (by have := HB396.out; omega)).mono ?_
                  rintro e w574 ⟨rfl, u575, hv576, hg577⟩
                  have HV578 := Lib.hid hv576
                  have HG579 := Lib.hid (HG472.out.trans hg577)
                  obtain ⟨l580, c581⟩ := hg577.loc HL473.out
                  have HL582 := Lib.hid l580
                  have HB583 := Lib.hid (fun j (h : j < [.slice A19 n20 cap21, .slice A27 n28 cap29, .slice (some ⟨eb348, eo349, none⟩) n36 cap37, .slice A43 n44 cap45, .slice A51 n52 cap53, .slice A59 n60 cap61, .slice A67 n68 cap69, .slice A75 n76 cap77, .int .i64 x.maxBatch, .int .i64 x.budget].length) => (c581 j).trans (HB474.out j h))
                  clear l580 c581
                  obtain ⟨l584, c585⟩ := hg577.loc HL475.out
                  have HL586 := Lib.hid l584
                  have HB587 := Lib.hid (fun j (h : j < [.int .i64 y347.id, .int .i64 y347.header, .int .i64 y347.select, .slice A362 n363 cap364, .int .i64 y347.dflt].length) => (c585 j).trans (HB476.out j h))
                  clear l584 c585
                  clear hv576 hg577
                  clear d573
                  go_wp2_with fail
                  go_roundw
                  case rel => exact ⟨q334 + 1, by omega, by simp, u575, by rw [HX353.out]; exact HV578.out, HG579.out, HL582.out, HB583.out⟩
                  case measure => simp [intOf]; omega
            · obtain rfl : n36 = q334 := by omega
              have HV588 : Hid (WrAt X B W336 (rList 12 (eState wayR) x.states (rList 8 (eHeader wayR) x.headers (rList 32 (eField wayR) x.fields (s)))) u335) := Lib.hid (by rw [rList_run, ← HN38.out]; exact HV343.out)
              go_wp2_with fail
              go_end0
              exact ⟨rfl, u335, HV588.out, HG344.out⟩
end
end
end Go.Proofs.Ytljmiickhkkceaa
