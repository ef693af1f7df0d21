/- An entry out of choices: the walk of Codes.Entry. -/
import Derived.Test.YthldelnibgdnaaaGEntP
namespace Go.Proofs.Ythldelnibgdnaaa
open Go.RowKit

set_option maxRecDepth 100000 in
set_option maxHeartbeats 8000000 in
theorem cs_entry (w : World) (B K D p0 : Nat) (l : List Nat) {s0 s1 s2 s3 s4 s5 s6 s7 : Value} {x : SchemaD} (h : SchM w B s0 s1 s2 s3 s4 s5 s6 s7 x) (hg : GenOk x) (hB : B ≤ w.heap.size) (hBK : B ≤ K) (s8 s9 : Value) (hco : CoAt K D l p0 w) (which : Int) (r : Nat) (hwh : modI which x.tables.length = (r : Int)) (t : TableD) (ht : x.tables[r]? = some t) :
    Calls Try.prog 6 #[.pointer (some ⟨K, 0, none⟩), .agg #[s0, s1, s2, s3, s4, s5, s6, s7, s8, s9], .int .i64 which] w (RetEnt K D l x t w) := by
  have hrl : r < x.tables.length := (List.getElem?_eq_some_iff.1 ht).1
  have hmem : t ∈ x.tables := List.mem_of_getElem? ht
  have hKl := hco.lt
  have hDl := hco.dlt
  obtain ⟨A0, n0, c0, rfl, _⟩ := h.f.parts
  obtain ⟨A1, n1, c1, rfl, _⟩ := h.h.parts
  obtain ⟨A2, n2, c2, rfl, _⟩ := h.st.parts
  obtain ⟨A3, n3, c3, rfl, _⟩ := h.a.parts
  obtain ⟨A4, n4, c4, rfl, _⟩ := h.t.parts
  obtain ⟨A5, n5, c5, rfl, _⟩ := h.sg.parts
  obtain ⟨A6, n6, c6, rfl, _⟩ := h.r.parts
  obtain ⟨A7, n7, c7, rfl, _⟩ := h.rf.parts
  obtain ⟨hn4, hc4, hm4⟩ := h.t.len
  obtain ⟨W0, hW0⟩ : ∃ W, W = ((w.alloc (.cells #[.slice A0 n0 c0, .slice A1 n1 c1, .slice A2 n2 c2, .slice A3 n3 c3, .slice A4 n4 c4, .slice A5 n5 c5, .slice A6 n6 c6, .slice A7 n7 c7, s8, s9] 39)).alloc (.cells #[.int .i64 0, .slice none 0 0, .int .i64 0, .int .i64 0, .slice none 0 0] 26)) := ⟨_, rfl⟩
  have hB0 : Below w.heap.size w W0 := by rw [hW0]; exact (((Below.refl w.heap.size w).alloc (by simp <;> omega) _).alloc (by simp <;> omega) _)
  have hz0 : W0.heap.size = w.heap.size + 2 := by rw [hW0]; simp
  have b0_0 : W0.heap[w.heap.size]? = some (.cells #[.slice A0 n0 c0, .slice A1 n1 c1, .slice A2 n2 c2, .slice A3 n3 c3, .slice A4 n4 c4, .slice A5 n5 c5, .slice A6 n6 c6, .slice A7 n7 c7, s8, s9] 39 (0, 0)) := by
    rw [hW0]
    exact (((Below.refl (w.alloc (.cells #[.slice A0 n0 c0, .slice A1 n1 c1, .slice A2 n2 c2, .slice A3 n3 c3, .slice A4 n4 c4, .slice A5 n5 c5, .slice A6 n6 c6, .slice A7 n7 c7, s8, s9] 39)).heap.size (w.alloc (.cells #[.slice A0 n0 c0, .slice A1 n1 c1, .slice A2 n2 c2, .slice A3 n3 c3, .slice A4 n4 c4, .slice A5 n5 c5, .slice A6 n6 c6, .slice A7 n7 c7, s8, s9] 39))).alloc (by simp <;> omega) _).block w.heap.size (by simp)).trans (heap_alloc_new _ _)
  have b0_1 : W0.heap[w.heap.size + 1]? = some (.cells #[.int .i64 0, .slice none 0 0, .int .i64 0, .int .i64 0, .slice none 0 0] 26 (0, 0)) := by
    rw [hW0]
    rw [show w.heap.size + 1 = (w.alloc (.cells #[.slice A0 n0 c0, .slice A1 n1 c1, .slice A2 n2 c2, .slice A3 n3 c3, .slice A4 n4 c4, .slice A5 n5 c5, .slice A6 n6 c6, .slice A7 n7 c7, s8, s9] 39)).heap.size by simp]
    exact heap_alloc_new _ _
  obtain ⟨tb, tof, e4, y, hyk, htbB, cs, hcs, hV⟩ := row_at (h.t.below kept_table (hB0.mono hB)) hrl
  obtain rfl : t = y := by rw [hyk] at ht; injection ht with ht; exact ht.symm
  obtain ⟨vk, va, vr, rfl, -, -, rk, ra, -, rr, -⟩ := hV
  subst e4
  obtain ⟨Ak, nk, ck, rfl, hnk, hck, hmk⟩ := rk.parts
  obtain ⟨Aa, na, ca, rfl, hna, hca, hma⟩ := ra.parts
  obtain ⟨Ar, nr, cr, rfl, _⟩ := rr.parts
  obtain ⟨han, hal⟩ := hg.acts t hmem
  obtain ⟨hkn, hkl⟩ := hg.kl t hmem
  obtain ⟨kb, ko, eAk, _⟩ := row_at rk (q := 0) (List.length_pos_iff.2 hkn)
  subst eAk
  have hnk1 : nk ≤ 1000 := by rw [hnk.out]; exact hkl
  have hna1 : na ≤ 1000 := by rw [hna.out]; exact hal
  have hlt4 : (r : Int) < (n4 : Int) := by rw [hn4.out]; omega
  have hlt4c : (r : Int) < (c4 : Int) := by omega
  have hr0 : 0 ≤ (r : Int) := by omega
  have htbl : tb < w.heap.size := by omega
  have hwh4 : Hid (∀ W, Calls Try.prog 22 #[.int .i64 which, .int .i64 (n4 : Int)] W fun e w' => e = .returned (.int .i64 (r : Int)) ∧ w' = W) := Lib.hid fun W => by
    have := cs_modE which n4 (by rw [hn4.out]; omega) (by rw [hn4.out]; have := hg.tl; omega) W
    rw [show modI which n4 = (r : Int) from by rw [hn4.out]; exact hwh] at this
    exact this
  have HKS : Hid (∀ w', Below W0.heap.size W0 w' → Below W0.heap.size W0 w' ∧ w'.cell? ⟨w.heap.size, 4, none⟩ = some (.slice (some ⟨tb, tof, none⟩) n4 c4) ∧ w'.cell? ⟨tb, tof + r * 8, none⟩ = some (.int .i64 t.id) ∧ w'.cell? ⟨tb, tof + r * 8 + 1, none⟩ = some (.string (strL t.name)) ∧ w'.cell? ⟨tb, tof + r * 8 + 2, none⟩ = some (.slice (some ⟨kb, ko, none⟩) nk ck) ∧ w'.cell? ⟨tb, tof + r * 8 + 3, none⟩ = some (.slice Aa na ca) ∧ w'.cell? ⟨tb, tof + r * 8 + 4, none⟩ = some (.int .i64 t.dflt) ∧ w'.cell? ⟨tb, tof + r * 8 + 5, none⟩ = some (.slice Ar nr cr) ∧ w'.cell? ⟨tb, tof + r * 8 + 6, none⟩ = some (.int .i64 t.size) ∧ w'.cell? ⟨tb, tof + r * 8 + 7, none⟩ = some (.string (strL t.restr))) := Lib.hid fun w' hb => by
    have q0 := (hb.block w.heap.size (by omega)).trans b0_0
    have q : ∀ j v, [.int .i64 t.id, .string (strL t.name), .slice (some ⟨kb, ko, none⟩) nk ck, .slice Aa na ca, .int .i64 t.dflt, .slice Ar nr cr, .int .i64 t.size, .string (strL t.restr)][j]? = some v → w'.cell? ⟨tb, tof + r * 8 + j, none⟩ = some v := fun j v e => by
      rw [hb.cell (p := ⟨tb, tof + r * 8 + j, none⟩) (show tb < W0.heap.size by omega)]
      exact hcs.at j v e
    exact ⟨hb, blk_cell q0 4 _ rfl, q 0 _ rfl, q 1 _ rfl, q 2 _ rfl, q 3 _ rfl, q 4 _ rfl, q 5 _ rfl, q 6 _ rfl, q 7 _ rfl⟩
  have HB0 := Lib.hid hB0
  have HW0 := Lib.hid hW0
  have Hb0 := Lib.hid b0_0
  have Hb1 := Lib.hid b0_1
  have HSch := Lib.hid h
  have HRK := Lib.hid (show RowV 3 KeyV B W0 (.slice (some ⟨kb, ko, none⟩) nk ck) t.keys ∧ RowV 1 I64V B W0 (.slice Aa na ca) t.actions from ⟨rk, ra⟩)
  have HGO := Lib.hid hg
  have HCO := Lib.hid (hco.belowC hB0)
  clear h hg hB0 hW0 b0_0 b0_1 hcs rk ra rr hco hwh ht hyk
  go_enter Try.func6, Try.ntmps6
  go_upto_region 1 with fail
  rw [← HW0.out]
  go_cut [7] from 13 to 21 (fun v7 wx => v7 = .pointer (some ⟨w.heap.size + 2, 0, none⟩) ∧ wx = (W0.alloc (.cells #[.int .i64 t.id, .string (strL t.name), .slice (some ⟨kb, ko, none⟩) nk ck, .slice Aa na ca, .int .i64 t.dflt, .slice Ar nr cr, .int .i64 t.size, .string (strL t.restr)] 70)).drew)
  case first =>
    go_region_held3 (fun w' => Below W0.heap.size W0 w' ∧ w'.cell? ⟨w.heap.size, 4, none⟩ = some (.slice (some ⟨tb, tof, none⟩) n4 c4) ∧ w'.cell? ⟨tb, tof + r * 8, none⟩ = some (.int .i64 t.id) ∧ w'.cell? ⟨tb, tof + r * 8 + 1, none⟩ = some (.string (strL t.name)) ∧ w'.cell? ⟨tb, tof + r * 8 + 2, none⟩ = some (.slice (some ⟨kb, ko, none⟩) nk ck) ∧ w'.cell? ⟨tb, tof + r * 8 + 3, none⟩ = some (.slice Aa na ca) ∧ w'.cell? ⟨tb, tof + r * 8 + 4, none⟩ = some (.int .i64 t.dflt) ∧ w'.cell? ⟨tb, tof + r * 8 + 5, none⟩ = some (.slice Ar nr cr) ∧ w'.cell? ⟨tb, tof + r * 8 + 6, none⟩ = some (.int .i64 t.size) ∧ w'.cell? ⟨tb, tof + r * 8 + 7, none⟩ = some (.string (strL t.restr)))
      (first
        | exact HKS.out _ (Below.drew (Below.refl _ _))
        | exact HKS.out _ (below_alloc (And.left (by assumption)) _)
        | exact HKS.out _ (Below.drew (below_alloc (Below.refl _ _) _))
        | assumption)
      (first
        | (go_at_call 22; (with_reducible refine (hwh4.out _).mono ?_); rintro en v1 ⟨rfl, rfl⟩))
    all_goals go_wp2_with fail
    all_goals go_meet
    all_goals exact ⟨rfl, rfl⟩
  case rest =>
    obtain ⟨rfl, hwc⟩ := hcut
    obtain ⟨W1, hW1⟩ : ∃ z, z = wc := ⟨_, rfl⟩
    subst hW1
    have hb1 : Below W0.heap.size W0 W1 := by rw [hwc]; exact Below.drew (below_alloc (Below.refl _ _) _)
    have bt1 : W1.heap[w.heap.size + 2]? = some (.cells #[.int .i64 t.id, .string (strL t.name), .slice (some ⟨kb, ko, none⟩) nk ck, .slice Aa na ca, .int .i64 t.dflt, .slice Ar nr cr, .int .i64 t.size, .string (strL t.restr)] 70 (0, 0)) := by rw [hwc, ← hz0]; exact heap_alloc_new W0 _
    have hz1 : W1.heap.size = w.heap.size + 3 := by
      rw [hwc]
      show (W0.alloc _).heap.size = _
      simp [hz0]
    have bs1 := (hb1.block w.heap.size (by omega)).trans Hb0.out
    have br1 := (hb1.block (w.heap.size + 1) (by omega)).trans Hb1.out
    have t0 : W1.cell? ⟨w.heap.size + 2, 0, none⟩ = some (.int .i64 t.id) := blk_cell bt1 0 _ rfl
    have t2 : W1.cell? ⟨w.heap.size + 2, 2, none⟩ = some (.slice (some ⟨kb, ko, none⟩) nk ck) := blk_cell bt1 2 _ rfl
    obtain ⟨W2, hW2⟩ : ∃ W, W = W1.alloc (.cells #[.int .i64 t.id, .slice none 0 0, .int .i64 0, .int .i64 0, .slice none 0 0] 26) := ⟨_, rfl⟩
    have hb2 : Below W1.heap.size W1 W2 := by rw [hW2]; exact (Below.refl _ _).alloc (Nat.le_refl _) _
    have hz2 : W2.heap.size = w.heap.size + 4 := by rw [hW2]; simp [hz1]
    have be2 : W2.heap[w.heap.size + 3]? = some (.cells #[.int .i64 t.id, .slice none 0 0, .int .i64 0, .int .i64 0, .slice none 0 0] 26 (0, 0)) := by rw [hW2, ← hz1]; exact heap_alloc_new _ _
    have bs2 := (hb2.block w.heap.size (by omega)).trans bs1
    have br2 := (hb2.block (w.heap.size + 1) (by omega)).trans br1
    have bt2 := (hb2.block (w.heap.size + 2) (by omega)).trans bt1
    have hcd := HCO.out.belowC (hb1.trans (hb2.mono (by omega)))
    have t2' : W2.cell? ⟨w.heap.size + 2, 2, none⟩ = some (.slice (some ⟨kb, ko, none⟩) nk ck) := blk_cell bt2 2 _ rfl
    have hE0 : EInv K D l x t [.slice A0 n0 c0, .slice A1 n1 c1, .slice A2 n2 c2, .slice A3 n3 c3, .slice (some ⟨tb, tof, none⟩) n4 c4, .slice A5 n5 c5, .slice A6 n6 c6, .slice A7 n7 c7, s8, s9] [.int .i64 t.id, .string (strL t.name), .slice (some ⟨kb, ko, none⟩) nk ck, .slice Aa na ca, .int .i64 t.dflt, .slice Ar nr cr, .int .i64 t.size, .string (strL t.restr)] w W2 0 (.slice none 0 0) [] 0 := by
      refine ⟨bx_of bs2 (by omega), bx_of br2 (by omega), bx_of bt2 (by omega), bx_of be2 (by omega), World.ownsRow_nil _ _ _ _, by omega, rfl, fun j k m _ hm => by simp at hm, fun _ => rfl, fun ⟨k, hk, _⟩ => by simp at hk, ?_, _, hcd⟩
      exact (grown_of_below HB0.out (some K)).trans ((grown_of_below hb1 (some K)).trans (grown_of_below hb2 (some K)))
    have HE0 := Lib.hid hE0
    have HW2 := Lib.hid hW2
    clear hE0 hW2 hwc hb1 hb2 bt1 bs1 br1 be2 bs2 br2 bt2 hcd HKS hwh4 HCO
    go_upto_region 3 with fail
    rw [← HW2.out]
    clear t0 t2
    go_wp2_with fail
    go_loopw [28] (fun i W => ∃ q : Nat, q ≤ nk ∧ i = .int .i64 q ∧ ∃ v ms pr, EInv K D l x t [.slice A0 n0 c0, .slice A1 n1 c1, .slice A2 n2 c2, .slice A3 n3 c3, .slice (some ⟨tb, tof, none⟩) n4 c4, .slice A5 n5 c5, .slice A6 n6 c6, .slice A7 n7 c7, s8, s9] [.int .i64 t.id, .string (strL t.name), .slice (some ⟨kb, ko, none⟩) nk ck, .slice Aa na ca, .int .i64 t.dflt, .slice Ar nr cr, .int .i64 t.size, .string (strL t.restr)] w W q v ms pr) (fun i _ => nk - (intOf i).toNat)
    case atStart => exact ⟨0, by omega, rfl, _, _, _, HE0.out⟩
    case round =>
      clear t2' HE0 HW2
      obtain ⟨q, hq, rfl, v, ms, pr, hE⟩ := hrel
      have HE := Lib.hid hE
      have hszr := hE.sz
      obtain ⟨pc, hc⟩ := hE.co
      obtain ⟨A9, c9, rfl⟩ := own_shapeH hE.own
      have hbw : Below B W0 wr := ⟨hE.gr.os.trans HB0.out.os.symm, hE.gr.tape.trans HB0.out.tape.symm, hE.gr.output.trans HB0.out.output.symm, by omega, fun k hk => ((below_grownK hE.gr hBK hB).block k hk).trans ((HB0.out.mono hB).block k hk).symm⟩
      by_cases hlt : q < nk
      · have hkI : (q : Int) < (nk : Int) := by omega
        have hkc : (q : Int) < (ck : Int) := by omega
        have hk0 : 0 ≤ (q : Int) := by omega
        obtain ⟨g, oo, e1, k, hkk, _, cs, hcs, hV⟩ := row_at (HRK.out.1.below kept_key hbw) (q := q) (by rw [← hnk.out]; exact hlt)
        obtain ⟨rfl, -⟩ := hV
        obtain ⟨rfl, rfl⟩ : kb = g ∧ ko = oo := by simpa using e1
        clear e1
        have d0 : wr.cell? ⟨kb, ko + q * 3, none⟩ = some _ := hcs.at0 _ rfl
        have d1 : wr.cell? ⟨kb, ko + q * 3 + 1, none⟩ = some _ := hcs.at 1 _ rfl
        have d2 : wr.cell? ⟨kb, ko + q * 3 + 2, none⟩ = some _ := hcs.at 2 _ rfl
        obtain ⟨b, hbf, hb1, hb2, hkd⟩ := HGO.out.keys t hmem k (List.mem_of_getElem? hkk)
        obtain ⟨V1, hV1⟩ : ∃ W, W = wr.alloc (.cells #[.string (strL k.name), .int .i64 k.field, .int .i64 k.kind] 73) := ⟨_, rfl⟩
        have hbV : Below wr.heap.size wr V1 := by rw [hV1]; exact (Below.refl _ _).alloc (Nat.le_refl _) _
        have hKr : K < wr.heap.size := hc.lt
        have bk1 : Bx K wr.heap.size [.string (strL k.name), .int .i64 k.field, .int .i64 k.kind] V1 := by rw [hV1]; exact Bx.new hKr [.string (strL k.name), .int .i64 k.field, .int .i64 k.kind] _
        have hgV : wr.grownBy V1 none := grown_of_below hbV none
        have bs1 := (hE.bs.kept hgV (by simp)).drew
        have br1 := (hE.br.kept hgV (by simp)).drew
        have bt1 := (hE.bt.kept hgV (by simp)).drew
        have be1 := (hE.be.kept hgV (by simp)).drew
        have hcd := (hc.belowC hbV).drew
        have hod := World.ownsRow.drew (own_belowG hE.own hbV)
        have hVs : V1.heap.size = wr.heap.size + 1 := by rw [hV1]; simp
        have hBwV : Below B w V1 := (below_grownK hE.gr hBK hB).trans (hbV.mono (by omega))
        have KM := Lib.hid (cs_match V1.drew B K D pc l A0 n0 c0 x.fields (HSch.out.f.below kept_field (Below.drew hBwV)) (by show B ≤ V1.heap.size; omega) (.slice A1 n1 c1) (.slice A2 n2 c2) (.slice A3 n3 c3) (.slice (some ⟨tb, tof, none⟩) n4 c4) (.slice A5 n5 c5) (.slice A6 n6 c6) (.slice A7 n7 c7) s8 s9 hcd (strL k.name) k.field k.kind b hbf hb1 hb2 hkd)
        obtain ⟨i0, hi0, hz0', hy1, hy2⟩ := info_parts info_match
        have HI := Lib.hid hi0
        have HZ := Lib.hid hz0'
        have HY1 := Lib.hid hy1
        have HY2 := Lib.hid hy2
        have BS := Lib.hid bs1
        have BR := Lib.hid br1
        have BT := Lib.hid bt1
        have BE := Lib.hid be1
        have BK := Lib.hid bk1.drew
        have HOD := Lib.hid hod
        have HV1 := Lib.hid hV1
        have HKK := Lib.hid hkk
        have HBV := Lib.hid hbV
        have HFIT : Hid (∃ b : Nat, fbits x.fields k.field = (b : Int) ∧ b ≤ 32 ∧ b = b) := Lib.hid ⟨b, hbf, hb2, rfl⟩
        have HBF := Lib.hid hbf
        have sc0 : V1.drew.cell? ⟨w.heap.size, 0, none⟩ = some (.slice A0 n0 c0) := bs1.c 0 (by simp)
        have sc1 : V1.drew.cell? ⟨w.heap.size, 1, none⟩ = some (.slice A1 n1 c1) := bs1.c 1 (by simp)
        have sc2 : V1.drew.cell? ⟨w.heap.size, 2, none⟩ = some (.slice A2 n2 c2) := bs1.c 2 (by simp)
        have sc3 : V1.drew.cell? ⟨w.heap.size, 3, none⟩ = some (.slice A3 n3 c3) := bs1.c 3 (by simp)
        have sc4 : V1.drew.cell? ⟨w.heap.size, 4, none⟩ = some (.slice (some ⟨tb, tof, none⟩) n4 c4) := bs1.c 4 (by simp)
        have sc5 : V1.drew.cell? ⟨w.heap.size, 5, none⟩ = some (.slice A5 n5 c5) := bs1.c 5 (by simp)
        have sc6 : V1.drew.cell? ⟨w.heap.size, 6, none⟩ = some (.slice A6 n6 c6) := bs1.c 6 (by simp)
        have sc7 : V1.drew.cell? ⟨w.heap.size, 7, none⟩ = some (.slice A7 n7 c7) := bs1.c 7 (by simp)
        have sc8 : V1.drew.cell? ⟨w.heap.size, 8, none⟩ = some (s8) := bs1.c 8 (by simp)
        have sc9 : V1.drew.cell? ⟨w.heap.size, 9, none⟩ = some (s9) := bs1.c 9 (by simp)
        have u1 : V1.drew.cell? ⟨w.heap.size + 3, 1, none⟩ = some (.slice A9 q c9) := be1.c 1 (by simp)
        have k0 : V1.drew.cell? ⟨wr.heap.size, 0, none⟩ = some (.string (strL k.name)) := bk1.drew.c 0 (by simp)
        have k1 : V1.drew.cell? ⟨wr.heap.size, 1, none⟩ = some (.int .i64 k.field) := bk1.drew.c 1 (by simp)
        have k2 : V1.drew.cell? ⟨wr.heap.size, 2, none⟩ = some (.int .i64 k.kind) := bk1.drew.c 2 (by simp)
        have hE4 : w.heap.size + 3 ≠ K := BE.out.ne
        have HBLK : Hid (∀ j, Value.ownBlock (.slice A9 q c9) = some j → j < wr.heap.size) := Lib.hid fun j hj => (World.ownsRow.lt hE.own j hj).2
        have HGV : Hid (w.grownBy V1 (some K)) := Lib.hid (hE.gr.trans (grown_of_below hbV (some K)))
        clear hE hc hbw hcs hkk hV1 hbV bk1 hgV bs1 br1 bt1 be1 hcd hod hBwV hi0 hz0' hy1 hy2 hbf
        go_upto_region 6 with fail
        rw [← HV1.out]
        clear d0 d1 d2
        go_cut [] from 32 to 40 (fun wx => ∃ (v' : Value) (m : MatchD), MFit k.kind b m ∧ EMid K D l t [.slice A0 n0 c0, .slice A1 n1 c1, .slice A2 n2 c2, .slice A3 n3 c3, .slice (some ⟨tb, tof, none⟩) n4 c4, .slice A5 n5 c5, .slice A6 n6 c6, .slice A7 n7 c7, s8, s9] [.int .i64 t.id, .string (strL t.name), .slice (some ⟨kb, ko, none⟩) nk ck, .slice Aa na ca, .int .i64 t.dflt, .slice Ar nr cr, .int .i64 t.size, .string (strL t.restr)] [.string (strL k.name), .int .i64 k.field, .int .i64 k.kind] w wx wr.heap.size (q + 1) v' (ms ++ [m]) pr)
        case first =>
          go_region_law (first
            | (go_simp; go_at_call 23; go_loud ((with_reducible refine KM.out.mono ?_); rintro en w7 ⟨m, rfl, hm, hg7, p7, hc7⟩; have BE7 := Lib.hid (BE.out.chose hg7); have u7 : w7.cell? ⟨w.heap.size + 3, 1, none⟩ = some (.slice A9 q c9) := BE7.out.c 1 (by simp); have u7a : ∀ o : Obj, (w7.alloc o).cell? ⟨w.heap.size + 3, 1, none⟩ = some (.slice A9 q c9) := (fun o => (BE7.out.alloc o).c 1 (by simp)); have HR7 := Lib.hid (own_chose HOD.out hg7 (by omega)); have HG7 := Lib.hid hg7; have HC7 := Lib.hid hc7; have HM7 := Lib.hid hm; have z7 : V1.heap.size ≤ w7.heap.size := hg7.size; clear hg7 hc7 hm))
            | (refine step_appG rfl (.tmp 33) (.tmp 38) 23 (by rfl) (w.heap.size + 4) 75 i0 _ 8 64 Try.underlying23 HI.out HZ.out HY1.out HY2.out rfl (by decide) _ q _ (by rfl) (World.ownsRow.alloc HR7.out _) ⟨w7.heap.size, 0, none⟩ 1 1 (matchCells m) (by rfl) rfl (World.news_of_block (cs := (matchCells m).toArray) (t := 75) (fr := (0, 0)) (heap_alloc_new w7 _)) (one_match m) (by unfold maxLen; omega) (by omega) (by simp <;> omega) ?_; intro v8 w8 hO8 hg8 _; obtain ⟨A8, cap8, rfl⟩ := own_shapeH hO8; have HX8 := Lib.hid ((BE7.out.alloc (.cells (matchCells m).toArray 75)).kept hg8 (fun e => by have := own_block_geG HR7.out e.symm; omega)); have u8 := HX8.out.c 1 (by simp); have f8 := HX8.out.f 1; have HO8 := Lib.hid hO8; have HG8 := Lib.hid hg8; clear hO8 hg8))
          all_goals go_wp2_with fail
          all_goals go_meet
          all_goals
            have hgo : (w7.alloc (.cells (matchCells m).toArray 75)).grownBy w8 (Value.ownBlock (.slice A9 q c9)) := HG8.out
            have hno : ∀ j, j < w.heap.size + 4 → some j ≠ Value.ownBlock (.slice A9 q c9) := fun j hj e => by have := own_block_geG HR7.out e.symm; omega
            have g78 : w7.grownBy w8 (Value.ownBlock (.slice A9 q c9)) := World.grownBy.trans (grown_alloc w7 _ _) hgo
            have hKn : K < w.heap.size := hKl
            have hall : ∀ {L : Nat} {cs : List Value}, L < w.heap.size + 4 → L ≠ w.heap.size + 3 → Bx K L cs V1.drew → Bx K L cs (w8.setCell ⟨w.heap.size + 3, 1, none⟩ (.slice A8 (q + 1) cap8)) := fun hL hL2 hb => ((hb.chose (W' := w7) HG7.out).kept g78 (hno _ hL)).other hL2 1 _
            have h7 : V1.grownBy w7 (some K) := ⟨HG7.out.os, HG7.out.tape, HG7.out.output, HG7.out.size, HG7.out.block⟩
            have g8 : w.grownBy w8 (some K) := (HGV.out.trans h7).andThen g78 fun j hj => .inl (by have := own_block_geG HR7.out hj; omega)
            refine ⟨.slice A8 (q + 1) cap8, m, HM7.out, hall (by omega) (by omega) BS.out, hall (by omega) (by omega) BR.out, hall (by omega) (by omega) BT.out, HX8.out.set 1 (.slice A8 (q + 1) cap8), ?_, ?_, ?_, ?_, ?_⟩
            · exact (((BK.out.chose (W' := w7) HG7.out).kept g78 (fun e => by have := HBLK.out _ e.symm; omega)).other (by omega) 1 _)
            · rw [flat_snoc]
              exact own_setH (S := w.heap.size + 3) HO8.out
            · show w.heap.size + 4 ≤ (w8.setCell ⟨w.heap.size + 3, 1, none⟩ _).heap.size
              have := g78.size
              simp [World.setCell]
              omega
            · exact grown_newM g8 (grown_set w8 (w.heap.size + 3) 1 _) (by omega)
            · exact ⟨_, (HC7.out.kept g78 (fun e => hno K (by omega) e.symm) (fun h2 e => hno D (by have := hDl h2; omega) e.symm)).kept (grown_set w8 (w.heap.size + 3) 1 _) (fun e => by injection e with e; omega) (fun h2 e => by have := hDl h2; injection e with e; omega)⟩
        case rest =>
          obtain ⟨v', m, hm, hM⟩ := hcut
          obtain ⟨W6, hW6⟩ : ∃ z, z = wc := ⟨_, rfl⟩
          subst hW6
          have hfit : ∃ b : Nat, fbits x.fields k.field = (b : Int) ∧ b ≤ 32 ∧ MFit k.kind b m := ⟨b, HBF.out, hb2, hm⟩
          have HFT := Lib.hid hfit
          have HMM := Lib.hid hM
          have kk2 : W6.cell? ⟨wr.heap.size, 2, none⟩ = some (.int .i64 k.kind) := hM.bk.c 2 (by simp)
          obtain ⟨p6, hc6⟩ := hM.co
          have HC6 := Lib.hid hc6
          have hsz6 := hM.sz
          clear hm hM hc6 hfit hkd u1 k0 k1 k2 sc0 sc1 sc2 sc3 sc4 sc5 sc6 sc7 sc8 sc9 KM
          by_cases h34 : k.kind = 3 ∨ k.kind = 4
          · have HK34 := Lib.hid h34
            have fin : ∀ (x5 : Nat) (W9 : World) (p9 : Nat), x5 < 5 → W6.grownBy W9 (some K) → CoAt K D l p9 W9 → EInv K D l x t [.slice A0 n0 c0, .slice A1 n1 c1, .slice A2 n2 c2, .slice A3 n3 c3, .slice (some ⟨tb, tof, none⟩) n4 c4, .slice A5 n5 c5, .slice A6 n6 c6, .slice A7 n7 c7, s8, s9] [.int .i64 t.id, .string (strL t.name), .slice (some ⟨kb, ko, none⟩) nk ck, .slice Aa na ca, .int .i64 t.dflt, .slice Ar nr cr, .int .i64 t.size, .string (strL t.restr)] w (W9.setCell ⟨w.heap.size + 3, 2, none⟩ (.int .i64 (1 + (x5 : Int)))) (q + 1) v' (ms ++ [m]) (1 + (x5 : Int)) := fun x5 W9 p9 hx hg hc =>
              ((HMM.out.chose hKl hg ⟨p9, hc⟩).setP hKl hDl (by omega) _).inv HE.out HKK.out HFT.out (.inl ⟨HK34.out, by omega, by omega⟩)
            have FIN := Lib.hid fin
            clear fin
            have hb3 : (k.kind == 3 || k.kind == 4) = true := by rcases h34 with h | h <;> rw [h] <;> rfl
            rcases h34 with h3 | h4
            · go_wp2_with fail
              refine (next5 HC6.out).mono ?_
              rintro en w9 ⟨x5, hx5, rfl, hg9, p9, hc9⟩
              have hw5 : IntKind.i64.wrap (1 + (x5 : Int)) = 1 + (x5 : Int) := IntWalk.i64_in _ (by omega)
              have be9 := (HMM.out.be.chose hg9).c 2 (by simp)
              have bf9 := (HMM.out.be.chose hg9).f 2
              have HE9 := Lib.hid (FIN.out x5 w9 p9 hx5 hg9 hc9)
              clear hg9 hc9
              go_wp2_with fail
              go_roundw
              case rel => (go_light; exact ⟨q + 1, by omega, by simp, _, _, _, HE9.out⟩)
              case measure => simp [intOf]; omega
            · have h3 : ¬ k.kind = 3 := by omega
              go_wp2_with fail
              refine (next5 HC6.out).mono ?_
              rintro en w9 ⟨x5, hx5, rfl, hg9, p9, hc9⟩
              have hw5 : IntKind.i64.wrap (1 + (x5 : Int)) = 1 + (x5 : Int) := IntWalk.i64_in _ (by omega)
              have be9 := (HMM.out.be.chose hg9).c 2 (by simp)
              have bf9 := (HMM.out.be.chose hg9).f 2
              have HE9 := Lib.hid (FIN.out x5 w9 p9 hx5 hg9 hc9)
              clear hg9 hc9
              go_wp2_with fail
              go_roundw
              case rel => (go_light; exact ⟨q + 1, by omega, by simp, _, _, _, HE9.out⟩)
              case measure => simp [intOf]; omega
          · have h3 : ¬ k.kind = 3 := fun e => h34 (.inl e)
            have h4 : ¬ k.kind = 4 := fun e => h34 (.inr e)
            have hb3 : (k.kind == 3) = false := by rw [beq_eq_false_iff_ne]; exact h3
            have hb4 : (k.kind == 4) = false := by rw [beq_eq_false_iff_ne]; exact h4
            have hbo : (k.kind == 3 || k.kind == 4) = false := by rw [hb3, hb4]; rfl
            have HE9 := Lib.hid (HMM.out.inv HE.out HKK.out HFT.out (.inr ⟨⟨h3, h4⟩, rfl⟩))
            go_wp2_with fail
            go_roundw
            case rel => (go_light; exact ⟨q + 1, by omega, by simp, _, _, _, HE9.out⟩)
            case measure => simp [intOf]; omega
      · have hkI : ¬ (q : Int) < (nk : Int) := by omega
        obtain rfl : nk = q := by omega
        have hRM : RowH 8 MatchV (w.heap.size + 4) wr.heap.size wr (.slice A9 nk c9) ms := rowH_of_own (enc := matchCells) (fun _ => rfl) (Nat.le_refl _) (Nat.le_refl _) (fun m hm _ _ _ _ => by
          obtain ⟨j, hj, rfl⟩ := List.mem_iff_getElem.1 hm
          have hjk : j < t.keys.length := by rw [← hnk.out, ← hE.len]; exact hj
          obtain ⟨b, _, hb, hf⟩ := hE.fit j _ _ (List.getElem?_eq_getElem hjk) (List.getElem?_eq_getElem hj)
          exact ⟨rfl, mfit_ok hb hf⟩) (by rw [hE.len]; exact hE.own)
        have HRM := Lib.hid hRM
        obtain ⟨ab, ao, eAa, _⟩ := row_at HRK.out.2 (q := 0) (List.length_pos_iff.2 han)
        subst eAa
        have hna0 : 1 ≤ na := by rw [hna.out]; exact List.length_pos_iff.2 han
        have hrowA := HRK.out.2.below kept_int hbw
        have a3 : wr.drew.cell? ⟨w.heap.size + 2, 3, none⟩ = some (.slice (some ⟨ab, ao, none⟩) na ca) := hE.bt.c 3 (by simp)
        have KN : Hid (Calls Try.prog 16 #[.pointer (some ⟨K, 0, none⟩), .int .i64 (na : Int)] wr.drew (Chose K D l na wr.drew)) := Lib.hid (next_any na hna0 (by omega) hc.drew)
        have HEL : Hid (∀ W, wr.grownBy W (some K) → ∀ z : Nat, z < na → ∃ a : Int, a ∈ t.actions ∧ I64 a ∧ W.cell? ⟨ab, ao + z, none⟩ = some (.int .i64 a)) := Lib.hid fun W hg z hz => by
          obtain ⟨g, o, e, a, ha, _, cs, hcs, hv⟩ := row_at (hrowA.below kept_int (below_grownK hg hBK (by omega))) (q := z) (by rw [← hna.out]; exact hz)
          obtain ⟨rfl, hi⟩ := hv
          obtain ⟨rfl, rfl⟩ : ab = g ∧ ao = o := by simpa using e
          refine ⟨a, List.mem_of_getElem? ha, hi, ?_⟩
          have := hcs.at0 _ rfl
          rwa [Nat.mul_one] at this
        obtain ⟨W1, hW1⟩ : ∃ z, z = wr := ⟨_, rfl⟩
        subst hW1
        clear hE hc hRM hrowA
        go_upto_region 10 with fail
        go_cut [] from 54 to 63 (fun wx => ∃ a : Int, a ∈ t.actions ∧ I64 a ∧ Bx K w.heap.size [.slice A0 n0 c0, .slice A1 n1 c1, .slice A2 n2 c2, .slice A3 n3 c3, .slice (some ⟨tb, tof, none⟩) n4 c4, .slice A5 n5 c5, .slice A6 n6 c6, .slice A7 n7 c7, s8, s9] wx ∧ Bx K (w.heap.size + 1) [.int .i64 0, .slice none 0 0, .int .i64 0, .int .i64 0, .slice none 0 0] wx ∧ Bx K (w.heap.size + 3) [.int .i64 t.id, .slice A9 nk c9, .int .i64 pr, .int .i64 a, .slice none 0 0] wx ∧ SameB (w.heap.size + 4) W1.heap.size W1 wx ∧ w.grownBy wx (some K) ∧ ∃ p, CoAt K D l p wx)
        case first =>
          go_region_with (go_at_call 16; (with_reducible refine KN.out.mono ?_); rintro en w7 ⟨x7, hx7, rfl, hg7, p7, hc7⟩; have a7 : w7.cell? ⟨w.heap.size + 2, 3, none⟩ = some (.slice (some ⟨ab, ao, none⟩) na ca) := (HE.out.bt.drew.chose hg7).c 3 (by simp); have x70 : 0 ≤ (x7 : Int) := (by omega); have x71 : (x7 : Int) < (na : Int) := (by omega); have x72 : (x7 : Int) < (ca : Int) := (by omega); have hg17 : W1.grownBy w7 (some K) := ⟨hg7.os, hg7.tape, hg7.output, hg7.size, hg7.block⟩; (obtain ⟨a, ham, hai, ea⟩ := HEL.out w7 hg17 x7 hx7); have BE7 := Lib.hid (HE.out.be.chose hg17); have be73 := BE7.out.c 3 (by simp); have bf73 := BE7.out.f 3; have HG7 := Lib.hid hg17; have HC7 := Lib.hid hc7; have HAM := Lib.hid ham; have HAI := Lib.hid hai; clear hg7 hc7 hg17 ham hai)
          all_goals go_wp2_with fail
          all_goals go_meet
          all_goals
            refine ⟨a, HAM.out, HAI.out, (HE.out.bs.chose HG7.out).other (by omega) 3 _, (HE.out.br.chose HG7.out).other (by omega) 3 _, BE7.out.set 3 (.int .i64 a), (SameB.of_grown HG7.out (Nat.le_refl _) (fun j e => by injection e with e; omega)).trans (.of_set (by have := HG7.out.size; omega) (.inl (by omega)) 3 _), grown_newM (HE.out.gr.trans HG7.out) (grown_set w7 (w.heap.size + 3) 3 _) (by omega), _, HC7.out.kept (grown_set w7 (w.heap.size + 3) 3 _) (fun e => by injection e with e; omega) (fun h2 e => by have := hDl h2; injection e with e; omega)⟩
        case rest =>
          obtain ⟨a, ham, hai, bsA, brA, beA, smA, grA, pA, coA⟩ := hcut
          obtain ⟨W3, hW3⟩ : ∃ z, z = wc := ⟨_, rfl⟩
          subst hW3
          have KA := Lib.hid (cs_actionIn W3 B A3 n3 c3 x.actions (HSch.out.a.below kept_action (below_grownK grA hBK hB)) (Nat.le_trans hB grA.size) (.slice A0 n0 c0) (.slice A1 n1 c1) (.slice A2 n2 c2) (.slice (some ⟨tb, tof, none⟩) n4 c4) (.slice A5 n5 c5) (.slice A6 n6 c6) (.slice A7 n7 c7) s8 s9 a)
          have sc0 : W3.cell? ⟨w.heap.size, 0, none⟩ = some (.slice A0 n0 c0) := bsA.c 0 (by simp)
          have sc1 : W3.cell? ⟨w.heap.size, 1, none⟩ = some (.slice A1 n1 c1) := bsA.c 1 (by simp)
          have sc2 : W3.cell? ⟨w.heap.size, 2, none⟩ = some (.slice A2 n2 c2) := bsA.c 2 (by simp)
          have sc3 : W3.cell? ⟨w.heap.size, 3, none⟩ = some (.slice A3 n3 c3) := bsA.c 3 (by simp)
          have sc4 : W3.cell? ⟨w.heap.size, 4, none⟩ = some (.slice (some ⟨tb, tof, none⟩) n4 c4) := bsA.c 4 (by simp)
          have sc5 : W3.cell? ⟨w.heap.size, 5, none⟩ = some (.slice A5 n5 c5) := bsA.c 5 (by simp)
          have sc6 : W3.cell? ⟨w.heap.size, 6, none⟩ = some (.slice A6 n6 c6) := bsA.c 6 (by simp)
          have sc7 : W3.cell? ⟨w.heap.size, 7, none⟩ = some (.slice A7 n7 c7) := bsA.c 7 (by simp)
          have sc8 : W3.cell? ⟨w.heap.size, 8, none⟩ = some (s8) := bsA.c 8 (by simp)
          have sc9 : W3.cell? ⟨w.heap.size, 9, none⟩ = some (s9) := bsA.c 9 (by simp)
          have ea3 : W3.cell? ⟨w.heap.size + 3, 3, none⟩ = some (.int .i64 a) := beA.c 3 (by simp)
          have HAM := Lib.hid ham
          have HAI := Lib.hid hai
          have BRA := Lib.hid brA
          have BEA := Lib.hid beA
          have SMA := Lib.hid smA
          have GRA := Lib.hid grA
          have COA := Lib.hid coA
          have hzA := smA.size
          clear ham hai bsA brA beA smA grA coA a3 HEL KN
          go_wp2_with fail
          refine KA.out.mono ?_
          rintro en w4 ⟨vp, vb, rfl, rp, hb4⟩
          obtain ⟨Ap, np, cp, rfl, hnp, hcp, hmp⟩ := rp.parts
          have hpl := HGO.out.prm a
          have hnp1 : np ≤ 1000 := by rw [hnp.out]; exact hpl
          have hfl : ∀ W : World, (Instr.field 80 (.agg #[.int .i64 (actIn x.actions a).id, .string (strL (actIn x.actions a).name), .slice Ap np cp, vb, .string (strL (actIn x.actions a).restr)]) 2).run Try.prog W = .ok (.slice Ap np cp) W := fun W => rfl
          have g34 := grown_of_below hb4 none
          have hE2 : EArg K D l t (actIn x.actions a).params w W1 w4 (.slice A9 nk c9) pr a 0 (.slice none 0 0) [] :=
            ⟨BRA.out.kept g34 (by simp), BEA.out.kept g34 (by simp), SMA.out.trans (.of_grown g34 (by omega) (fun j e => by cases e)), World.ownsRow_nil _ _ _ _, rfl, fun j p c _ hc => by simp at hc, GRA.out.trans (grown_of_below hb4 (some K)), _, COA.out.belowC hb4⟩
          have HE2 := Lib.hid hE2
          have hszr0 := HE.out.sz
          have HG4 := Lib.hid (GRA.out.trans (grown_of_below hb4 (some K)))
          have HRP := Lib.hid rp
          have hz4 := hb4.size
          clear hE2 rp hb4 g34 KA sc0 sc1 sc2 sc3 sc4 sc5 sc6 sc7 sc8 sc9 ea3
          go_wp2_with fail
          go_loopw [70] (fun i W => ∃ q : Nat, q ≤ np ∧ i = .int .i64 q ∧ w4.heap.size ≤ W.heap.size ∧ ∃ u us, EArg K D l t (actIn x.actions a).params w W1 W (.slice A9 nk c9) pr a q u us) (fun i _ => np - (intOf i).toNat)
          case atStart => exact ⟨0, by omega, rfl, Nat.le_refl _, _, _, HE2.out⟩
          case round =>
            clear HE2
            obtain ⟨q2, hq2, rfl, hw4, u, us, hG⟩ := hrel
            have HG2 := Lib.hid hG
            have hszr := hG.same.size
            obtain ⟨pc2, hc2⟩ := hG.co
            obtain ⟨A8, c8, rfl⟩ := own_shapeH hG.own
            have hB4 : Below B w4 wr := ⟨hG.gr.os.trans HG4.out.os.symm, hG.gr.tape.trans HG4.out.tape.symm, hG.gr.output.trans HG4.out.output.symm, hw4, fun k hk => ((below_grownK hG.gr hBK hB).block k hk).trans ((below_grownK HG4.out hBK hB).block k hk).symm⟩
            by_cases hlt2 : q2 < np
            · have hkI : (q2 : Int) < (np : Int) := by omega
              have hkc : (q2 : Int) < (cp : Int) := by omega
              have hk0 : 0 ≤ (q2 : Int) := by omega
              obtain ⟨pb, po, e1, p, hpk, _, cs, hcs, hV⟩ := row_at (HRP.out.below kept_param hB4) (q := q2) (by rw [← hnp.out]; exact hlt2)
              obtain ⟨rfl, -, hpi⟩ := hV
              have d0 : wr.cell? ⟨pb, po + q2 * 2, none⟩ = some _ := hcs.at0 _ rfl
              have d1 : wr.cell? ⟨pb, po + q2 * 2 + 1, none⟩ = some _ := hcs.at 1 _ rfl
              obtain ⟨V2, hV2⟩ : ∃ W, W = wr.alloc (.cells #[.string (strL p.name), .int .i64 p.bits] 83) := ⟨_, rfl⟩
              have hbV : Below wr.heap.size wr V2 := by rw [hV2]; exact (Below.refl _ _).alloc (Nat.le_refl _) _
              have hKr : K < wr.heap.size := hc2.lt
              have bk1 : Bx K wr.heap.size [.string (strL p.name), .int .i64 p.bits] V2 := by rw [hV2]; exact Bx.new hKr [.string (strL p.name), .int .i64 p.bits] _
              have hgV : wr.grownBy V2 none := grown_of_below hbV none
              have hVs : V2.heap.size = wr.heap.size + 1 := by rw [hV2]; simp
              have BR := Lib.hid (hG.br.kept hgV (by simp)).drew
              have BE := Lib.hid (hG.be.kept hgV (by simp)).drew
              have BK := Lib.hid bk1.drew
              have HCd := Lib.hid (hc2.belowC hbV).drew
              have HOD := Lib.hid (World.ownsRow.drew (own_belowG hG.own hbV))
              have HBLK : Hid (∀ j, Value.ownBlock (.slice A8 q2 c8) = some j → j < wr.heap.size) := Lib.hid fun j hj => (World.ownsRow.lt hG.own j hj).2
              have HGV : Hid (w.grownBy V2 (some K)) := Lib.hid (hG.gr.trans (grown_of_below hbV (some K)))
              have HSV : Hid (SameB (w.heap.size + 4) W1.heap.size W1 V2) := Lib.hid (hG.same.trans (.of_grown hgV (by omega) (fun j e => by cases e)))
              have HV2 := Lib.hid hV2
              have HPK := Lib.hid hpk
              have KL : Hid (∀ (W : World) (N : Nat), N < 256 → Calls Try.prog 9 #[.agg #[.int .u64 0, .int .u64 (N : Int)], .int .i64 p.bits] W (RetV (lowB N p.bits) W)) := Lib.hid fun W N hN => by
                have := cs_low N p.bits (Nat.lt_trans hN (by decide)) hpi.2 W
                rwa [hi_small (by omega), lo_small (by omega)] at this
              obtain ⟨i0, hi0, hz0', hy1, hy2⟩ := info_parts info_valG
              have HI := Lib.hid hi0
              have HZ := Lib.hid hz0'
              have HY1 := Lib.hid hy1
              have HY2 := Lib.hid hy2
              have u1 : V2.drew.cell? ⟨w.heap.size + 3, 4, none⟩ = some (.slice A8 q2 c8) := BE.out.c 4 (by simp)
              have k1 : V2.drew.cell? ⟨wr.heap.size, 1, none⟩ = some (.int .i64 p.bits) := BK.out.c 1 (by simp)
              have hW1s : w.heap.size + 4 ≤ W1.heap.size := hszr0
              subst e1
              clear hG hc2 hB4 hcs hpk hV2 hbV bk1 hgV hi0 hz0' hy1 hy2
              go_upto_region 14 with fail
              rw [← HV2.out]
              clear d0 d1
              go_region_law (first
                | (go_simp; go_at_call 16; ((with_reducible refine (next256 HCd.out).mono ?_); rintro en w7 ⟨x7, hx7, rfl, hg7, p7, hc7⟩; have hx7w : IntKind.u64.wrap (x7 : Int) = (x7 : Int) := u64_wrapN x7 (by omega); have BE7 := Lib.hid (BE.out.chose hg7); have u7 : w7.cell? ⟨w.heap.size + 3, 4, none⟩ = some (.slice A8 q2 c8) := BE7.out.c 4 (by simp); have BK7 := Lib.hid (BK.out.chose hg7); have k7 : w7.cell? ⟨wr.heap.size, 1, none⟩ = some (.int .i64 p.bits) := BK7.out.c 1 (by simp); have HR7 := Lib.hid (own_chose HOD.out hg7 (by omega)); have HG7 := Lib.hid hg7; have HC7 := Lib.hid hc7; have z7 : V2.heap.size ≤ w7.heap.size := hg7.size; clear hg7 hc7))
                | (go_simp; go_at_call 9; ((with_reducible refine (KL.out _ _ hx7).mono ?_); rintro en w8 ⟨rfl, hb8⟩; have g8 := grown_of_below hb8 none; have BE8 := Lib.hid (BE7.out.kept g8 (by simp)); have u8 : w8.cell? ⟨w.heap.size + 3, 4, none⟩ = some (.slice A8 q2 c8) := BE8.out.c 4 (by simp); have u8a : ∀ o : Obj, (w8.alloc o).cell? ⟨w.heap.size + 3, 4, none⟩ = some (.slice A8 q2 c8) := (fun o => (BE8.out.alloc o).c 4 (by simp)); have HR8 := Lib.hid (own_belowG HR7.out hb8); have HG8 := Lib.hid g8; have HC8 := Lib.hid (HC7.out.belowC hb8); have z8 : w7.heap.size ≤ w8.heap.size := hb8.size; clear hb8 g8))
                | (refine step_appG rfl (.tmp 75) (.tmp 83) 24 (by rfl) W1.heap.size 29 i0 _ 2 16 Try.underlying24 HI.out HZ.out HY1.out HY2.out rfl (by decide) _ q2 _ (by rfl) (World.ownsRow.alloc HR8.out _) ⟨w8.heap.size, 0, none⟩ 1 1 (encVal (lowB x7 p.bits)) (by rfl) rfl (World.news_of_block (cs := (encVal (lowB x7 p.bits)).toArray) (t := 29) (fr := (0, 0)) (heap_alloc_new w8 _)) (by intro u hu; simp [encVal] at hu; rcases hu with rfl | rfl <;> rfl) (by unfold maxLen; omega) (by omega) (by simp <;> omega) ?_; intro v9 w9 hO9 hg9 _; obtain ⟨A9', cap9, rfl⟩ := own_shapeH hO9; have HX9 := Lib.hid ((BE8.out.alloc (.cells (encVal (lowB x7 p.bits)).toArray 29)).kept hg9 (fun e => by have := own_block_geG HR8.out e.symm; omega)); have u9 := HX9.out.c 4 (by simp); have f9 := HX9.out.f 4; have HO9 := Lib.hid hO9; have HG9 := Lib.hid hg9; clear hO9 hg9))
              all_goals
                have hgo : (w8.alloc (.cells (encVal (lowB x7 p.bits)).toArray 29)).grownBy w9 (Value.ownBlock (.slice A8 q2 c8)) := HG9.out
                have hge : ∀ j, Value.ownBlock (.slice A8 q2 c8) = some j → W1.heap.size ≤ j := fun j e => own_block_geG HR8.out e
                have hno : ∀ j, j < W1.heap.size → some j ≠ Value.ownBlock (.slice A8 q2 c8) := fun j hj e => by have := hge j e.symm; omega
                have g89 : w8.grownBy w9 (Value.ownBlock (.slice A8 q2 c8)) := World.grownBy.trans (grown_alloc w8 _ _) hgo
                have g79 : w7.grownBy w9 (Value.ownBlock (.slice A8 q2 c8)) := (grown_below HG8.out).trans g89
                have h7 : V2.grownBy w7 (some K) := ⟨HG7.out.os, HG7.out.tape, HG7.out.output, HG7.out.size, HG7.out.block⟩
                have g9 : w.grownBy w9 (some K) := (HGV.out.trans h7).andThen g79 fun j hj => .inl (by have := hge j hj; omega)
                have hK0 : K < w.heap.size := hKl
                have hs9 : w4.heap.size ≤ w9.heap.size := by have := g79.size; omega
                have hE3 : EArg K D l t (actIn x.actions a).params w W1 (w9.setCell ⟨w.heap.size + 3, 4, none⟩ (.slice A9' (q2 + 1) cap9)) (.slice A9 nk c9) pr a (q2 + 1) (.slice A9' (q2 + 1) cap9) (us ++ [lowB x7 p.bits]) := by
                  refine ⟨((BR.out.chose HG7.out).kept g79 (hno _ (by omega))).other (by omega) 4 _, HX9.out.set 4 (.slice A9' (q2 + 1) cap9), ((HSV.out.trans (.of_grown h7 (by omega) (fun j e => by injection e with e; omega))).trans (.of_grown g79 (by omega) (fun j e => .inr (hge j e)))).trans (.of_set (by omega) (.inl (by omega)) 4 _), ?_, by rw [List.length_append, HG2.out.len]; rfl, fit_snoc HG2.out.len HPK.out hx7 HG2.out.fit, grown_newM g9 (grown_set w9 (w.heap.size + 3) 4 _) (by omega), ?_⟩
                  · rw [flat_snoc]
                    exact own_chose (K := w.heap.size + 3) HO9.out (grown_set w9 (w.heap.size + 3) 4 _) (by omega)
                  · exact ⟨_, (HC8.out.kept g89 (fun e => hno K (by omega) e.symm) (fun h2 e => hno D (by have := hDl h2; omega) e.symm)).kept (grown_set w9 (w.heap.size + 3) 4 _) (fun e => by injection e with e; omega) (fun h2 e => by have := hDl h2; injection e with e; omega)⟩
                have HE3 := Lib.hid hE3
                clear hgo hge hno g89 g79 h7 g9 hE3
                go_wp2_with fail
                go_roundw
                case rel => (go_light; exact ⟨q2 + 1, by omega, by simp, by simp [World.setCell]; exact hs9, _, _, HE3.out⟩)
                case measure => simp [intOf]; omega
            · have hkI : ¬ (q2 : Int) < (np : Int) := by omega
              obtain rfl : np = q2 := by omega
              have z0 : wr.cell? ⟨w.heap.size + 3, 0, none⟩ = some (.int .i64 t.id) := hG.be.c 0 (by simp)
              have z1 : wr.cell? ⟨w.heap.size + 3, 1, none⟩ = some (.slice A9 nk c9) := hG.be.c 1 (by simp)
              have z2 : wr.cell? ⟨w.heap.size + 3, 2, none⟩ = some (.int .i64 pr) := hG.be.c 2 (by simp)
              have z3 : wr.cell? ⟨w.heap.size + 3, 3, none⟩ = some (.int .i64 a) := hG.be.c 3 (by simp)
              have z4 : wr.cell? ⟨w.heap.size + 3, 4, none⟩ = some (.slice A8 np c8) := hG.be.c 4 (by simp)
              have f0 := hG.br.f 0
              have f1 := hG.br.f 1
              have f2 := hG.br.f 2
              have f3 := hG.br.f 3
              have f4 := hG.br.f 4
              have y0 : wr.cell? ⟨w.heap.size + 1, 0, none⟩ = some (.int .i64 0) := hG.br.c 0 (by simp)
              have y1 : wr.cell? ⟨w.heap.size + 1, 1, none⟩ = some (.slice none 0 0) := hG.br.c 1 (by simp)
              have y2 : wr.cell? ⟨w.heap.size + 1, 2, none⟩ = some (.int .i64 0) := hG.br.c 2 (by simp)
              have y3 : wr.cell? ⟨w.heap.size + 1, 3, none⟩ = some (.int .i64 0) := hG.br.c 3 (by simp)
              have y4 : wr.cell? ⟨w.heap.size + 1, 4, none⟩ = some (.slice none 0 0) := hG.br.c 4 (by simp)
              have hzz : W1.heap.size ≤ wr.heap.size := hszr
              have hBR := (hG.br.set 0 (.int .i64 t.id)).set 1 (.slice A9 nk c9) |>.set 2 (.int .i64 pr) |>.set 3 (.int .i64 a) |>.set 4 (.slice A8 np c8)
              have HBR := Lib.hid hBR
              clear hG hBR hc2 hB4
              go_wp2_with fail
              have q := fun j hj => HBR.out.c j hj
              have q0 := q 0 (by simp)
              have q1 := q 1 (by simp)
              have q2' := q 2 (by simp)
              have q3 := q 3 (by simp)
              have q4 := q 4 (by simp)
              simp only [List.set_cons_zero, List.set_cons_succ, List.getElem_cons_zero, List.getElem_cons_succ] at q0 q1 q2' q3 q4
              refine bodyPost_ret (v := .agg #[.int .i64 t.id, .slice A9 nk c9, .int .i64 pr, .int .i64 a, .slice A8 np c8]) (by simp [results, Try.results6, go_sem, q0, q1, q2', q3, q4]) rfl ?_
              exact ent_end hKl hDl HRM.out HE.out hnk.out HAM.out hnp.out HG2.out hzz (.int .i64 t.id) (.slice A9 nk c9) (.int .i64 pr) (.int .i64 a) (.slice A8 np c8) _ rfl
end Go.Proofs.Ythldelnibgdnaaa
