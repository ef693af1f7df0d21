/- Making a schema out of choices: roles. -/
import Derived.Test.YtldgjahpmlafgaaGreatSRolP
namespace Go.Proofs.YtldgjahpmlafgaaGreat
open Go.RowKit

/-- A row of tables, where it lies. -/
theorem tabs_at {a b : Nat} {w : World} {v : Value} {xs : List TableD} (hr : RowH 8 TableV a b w v xs) (hb : b ≤ w.heap.size) (hne : xs ≠ []) : ∃ b0 o cap, v = .slice (some ⟨b0, o, none⟩) xs.length cap ∧ xs.length ≤ cap ∧
    ∀ W, SameB a b w W → ∀ k x, xs[k]? = some x → ∃ vk va vr n cap2 Ak, vk = .slice Ak n cap2 ∧ n = x.keys.length ∧ n ≤ cap2 ∧ (∃ A2 n2 c2, va = .slice A2 n2 c2) ∧ (∃ A3 n3 c3, vr = .slice A3 n3 c3) ∧ I64 x.id ∧ CellsAt W b0 (o + k * 8) [.int .i64 x.id, .string (strL x.name), vk, va, .int .i64 x.dflt, vr, .int .i64 x.size, .string (strL x.restr)] := by
  obtain ⟨A, n, cap, rfl, hn, h2, _, h4⟩ := hr.row hb
  obtain ⟨b0, o, rfl, _⟩ := h4.resolve_left hne
  refine ⟨b0, o, cap, by rw [hn.out], by rw [← hn.out]; exact h2, fun W hs k x hx => ?_⟩
  obtain ⟨A', n', cap', e, _, _, _, h5⟩ := hr W b hs (Nat.le_refl _)
  obtain ⟨b1, o1, e1, h6⟩ := h5.resolve_left hne
  simp only [Value.slice.injEq] at e
  obtain ⟨e, _, _⟩ := e
  rw [e1] at e
  simp only [Option.some.injEq, Addr.mk.injEq, and_true] at e
  obtain ⟨rfl, rfl⟩ := e
  obtain ⟨_, cs, hc, vk, va, vr, rfl, i1, _, rk, ra, _, rr, _, _⟩ := h6 k x hx
  obtain ⟨Ak, nk, ck, rfl, hnk, hck, _, _⟩ := rk
  obtain ⟨A2, n2, c2, rfl, _⟩ := ra
  obtain ⟨A3, n3, c3, rfl, _⟩ := rr
  exact ⟨_, _, _, nk, ck, Ak, rfl, hnk.out, hck, ⟨_, _, _, rfl⟩, ⟨_, _, _, rfl⟩, i1, hc⟩
set_option maxRecDepth 100000 in
set_option maxHeartbeats 8000000 in
theorem roles_any {K D p a b : Nat} {l : List Nat} {w : World} {v : Value} {xs : List TableD} (h : CoAt K D l p w) (hr : RowH 8 TableV a b w v xs) (hKa : K < a) (hb : b ≤ w.heap.size) (hne : xs ≠ []) (hlen : xs.length ≤ 8) (hkl : ∀ x ∈ xs, x.keys.length ≤ 4) : Calls Tryz.prog 71 #[.pointer (some ⟨K, 0, none⟩), v] w (RetRoles K D l w xs) := by
  have HC0 := Lib.hid h
  have HDl := Lib.hid h.dlt
  have hKw := h.lt
  obtain ⟨b0, o0, cap0, rfl, hcap0, htab⟩ := tabs_at hr hb hne
  have HTab := Lib.hid htab
  have HLen := Lib.hid hlen
  have HKl := Lib.hid hkl
  obtain ⟨N, hN⟩ : ∃ N, N = xs.length := ⟨_, rfl⟩
  have HN := Lib.hid hN
  have hN8 : N ≤ 8 := by rw [hN]; exact hlen
  rw [← hN] at hcap0 ⊢
  clear h hr hne htab hlen hkl hN
  obtain ⟨i0, hi0, hz0, hy1, hy2⟩ := info_parts info_grant
  go_enter Tryz.func71, Tryz.ntmps71
  obtain ⟨wA, hwA⟩ : ∃ x, x = (w.alloc (.cells #[.int .i64 1, .int .i64 2, .int .i64 3, .int .i64 4, .int .i64 5, .int .i64 6] 3)).alloc (.cells #[.int .i64 1, .string ⟨#[97, 108, 108]⟩, .slice none 0 0, .slice (some ⟨w.heap.size, 0, none⟩) 6 6, .int .i64 40, .bool true] 183) := ⟨_, rfl⟩
  have gA : w.grownBy wA none := by rw [hwA]; exact (grown_alloc _ _ _).trans (grown_alloc _ _ _)
  have zA : wA.heap.size = w.heap.size + 2 := by rw [hwA]; simp
  have xA0 : Bx K w.heap.size [.int .i64 1, .int .i64 2, .int .i64 3, .int .i64 4, .int .i64 5, .int .i64 6] wA := by rw [hwA]; exact (Bx.new hKw [.int .i64 1, .int .i64 2, .int .i64 3, .int .i64 4, .int .i64 5, .int .i64 6] 3).alloc _
  have xR0 : Bx K (w.heap.size + 1) [.int .i64 1, .string ⟨#[97, 108, 108]⟩, .slice none 0 0, .slice (some ⟨w.heap.size, 0, none⟩) 6 6, .int .i64 40, .bool true] wA := by
    rw [hwA]
    have := Bx.new (K := K) (W := w.alloc (.cells #[.int .i64 1, .int .i64 2, .int .i64 3, .int .i64 4, .int .i64 5, .int .i64 6] 3)) (by simp; omega) [.int .i64 1, .string ⟨#[97, 108, 108]⟩, .slice none 0 0, .slice (some ⟨w.heap.size, 0, none⟩) 6 6, .int .i64 40, .bool true] 183
    simpa only [World.size_alloc] using this
  have cA := HC0.out.kept gA (by simp) (by simp)
  have HXa0 := Lib.hid xA0
  have HXr0 := Lib.hid xR0
  have HWA := Lib.hid hwA
  have HGA := Lib.hid (grown_below (row := some K) gA)
  have HN1 := Lib.hid (next3 cA)
  clear xA0 xR0 hwA cA gA
  go_wp2_with fail
  rw [← HWA.out]
  refine HN1.out.mono ?_
  rintro e wB ⟨c, hc, rfl, hgwB, pwB, cwB⟩
  have ac : (c : Int) < 3 := by omega
  have bc : 0 ≤ (c : Int) := by omega
  have HXa0 := Lib.hid (HXa0.out.chose hgwB)
  have HXr0 := Lib.hid (HXr0.out.chose hgwB)
  have HGwB := Lib.hid (World.grownBy.trans HGA.out hgwB)
  have zwB : wA.heap.size ≤ wB.heap.size := hgwB.size
  have Hvc := Lib.hid hc
  obtain ⟨wC, hwC⟩ : ∃ x, x = wB.alloc (.cells #[.int .i64 1, .int .i64 2, .int .i64 (3 + (c : Int))] 3) := ⟨_, rfl⟩
  have gC : wB.grownBy wC none := by rw [hwC]; exact grown_alloc _ _ _
  have zC : wC.heap.size = wB.heap.size + 1 := by rw [hwC]; simp
  have xA1 : Bx K wB.heap.size [.int .i64 1, .int .i64 2, .int .i64 (3 + (c : Int))] wC := by rw [hwC]; exact Bx.new cwB.lt [.int .i64 1, .int .i64 2, .int .i64 (3 + (c : Int))] 3
  have cC := cwB.kept gC (by simp) (by simp)
  have HXa0 := Lib.hid (HXa0.out.kept gC (by simp))
  have HXr0 := Lib.hid (HXr0.out.kept gC (by simp))
  have HXa1 := Lib.hid xA1
  have HWC := Lib.hid hwC
  have HGC := Lib.hid (World.grownBy.trans HGwB.out (grown_below gC))
  have HN2 := Lib.hid (next6 cC)
  clear xA1 hwC cC gC cwB hgwB
  go_wp2_with fail
  rw [← HWC.out]
  refine HN2.out.mono ?_
  rintro e wD ⟨d, hd, rfl, hgwD, pwD, cwD⟩
  have ad : (d : Int) < 6 := by omega
  have bd : 0 ≤ (d : Int) := by omega
  have HXa0 := Lib.hid (HXa0.out.chose hgwD)
  have HXr0 := Lib.hid (HXr0.out.chose hgwD)
  have HXa1 := Lib.hid (HXa1.out.chose hgwD)
  have HGwD := Lib.hid (World.grownBy.trans HGC.out hgwD)
  have zwD : wC.heap.size ≤ wD.heap.size := hgwD.size
  have Hvd := Lib.hid hd
  obtain ⟨wE, hwE⟩ : ∃ x, x = wD.alloc (.cells #[.int .i64 2, .string ⟨#[115, 111, 109, 101]⟩, .slice none 0 0, .slice (some ⟨wB.heap.size, 0, none⟩) 3 3, .int .i64 (1 + (d : Int)), .bool false] 183) := ⟨_, rfl⟩
  have gE : wD.grownBy wE none := by rw [hwE]; exact grown_alloc _ _ _
  have zE : wE.heap.size = wD.heap.size + 1 := by rw [hwE]; simp
  have xR1 : Bx K wD.heap.size [.int .i64 2, .string ⟨#[115, 111, 109, 101]⟩, .slice none 0 0, .slice (some ⟨wB.heap.size, 0, none⟩) 3 3, .int .i64 (1 + (d : Int)), .bool false] wE := by rw [hwE]; exact Bx.new cwD.lt [.int .i64 2, .string ⟨#[115, 111, 109, 101]⟩, .slice none 0 0, .slice (some ⟨wB.heap.size, 0, none⟩) 3 3, .int .i64 (1 + (d : Int)), .bool false] 183
  have cE := cwD.kept gE (by simp) (by simp)
  have HXa0 := Lib.hid (HXa0.out.kept gE (by simp))
  have HXr0 := Lib.hid (HXr0.out.kept gE (by simp))
  have HXa1 := Lib.hid (HXa1.out.kept gE (by simp))
  have HXr1 := Lib.hid xR1
  have HWE := Lib.hid hwE
  have HGE := Lib.hid (World.grownBy.trans HGwD.out (grown_below gE))
  have HN3 := Lib.hid (next6 cE)
  clear xR1 hwE cE gE cwD hgwD
  go_wp2_with fail
  rw [← HWE.out]
  refine HN3.out.mono ?_
  rintro e wF ⟨e1, he1, rfl, hgwF, pwF, cwF⟩
  have ae1 : (e1 : Int) < 6 := by omega
  have be1 : 0 ≤ (e1 : Int) := by omega
  have HXa0 := Lib.hid (HXa0.out.chose hgwF)
  have HXr0 := Lib.hid (HXr0.out.chose hgwF)
  have HXa1 := Lib.hid (HXa1.out.chose hgwF)
  have HXr1 := Lib.hid (HXr1.out.chose hgwF)
  have HGwF := Lib.hid (World.grownBy.trans HGE.out hgwF)
  have zwF : wE.heap.size ≤ wF.heap.size := hgwF.size
  have Hve1 := Lib.hid he1
  obtain ⟨wG, hwG⟩ : ∃ x, x = wF.alloc (.cells #[.int .i64 (1 + (e1 : Int))] 3) := ⟨_, rfl⟩
  have gG : wF.grownBy wG none := by rw [hwG]; exact grown_alloc _ _ _
  have zG : wG.heap.size = wF.heap.size + 1 := by rw [hwG]; simp
  have xA2 : Bx K wF.heap.size [.int .i64 (1 + (e1 : Int))] wG := by rw [hwG]; exact Bx.new cwF.lt [.int .i64 (1 + (e1 : Int))] 3
  have cG := cwF.kept gG (by simp) (by simp)
  have HXa0 := Lib.hid (HXa0.out.kept gG (by simp))
  have HXr0 := Lib.hid (HXr0.out.kept gG (by simp))
  have HXa1 := Lib.hid (HXa1.out.kept gG (by simp))
  have HXr1 := Lib.hid (HXr1.out.kept gG (by simp))
  have HXa2 := Lib.hid xA2
  have HWG := Lib.hid hwG
  have HGG := Lib.hid (World.grownBy.trans HGwF.out (grown_below gG))
  have HN4 := Lib.hid (next4 cG)
  clear xA2 hwG cG gG cwF hgwF
  go_wp2_with fail
  rw [← HWG.out]
  refine HN4.out.mono ?_
  rintro e wH ⟨f, hf, rfl, hgwH, pwH, cwH⟩
  have af : (f : Int) < 4 := by omega
  have bf : 0 ≤ (f : Int) := by omega
  have HXa0 := Lib.hid (HXa0.out.chose hgwH)
  have HXr0 := Lib.hid (HXr0.out.chose hgwH)
  have HXa1 := Lib.hid (HXa1.out.chose hgwH)
  have HXr1 := Lib.hid (HXr1.out.chose hgwH)
  have HXa2 := Lib.hid (HXa2.out.chose hgwH)
  have HGwH := Lib.hid (World.grownBy.trans HGG.out hgwH)
  have zwH : wG.heap.size ≤ wH.heap.size := hgwH.size
  have Hvf := Lib.hid hf
  obtain ⟨wI, hwI⟩ : ∃ x, x = wH.alloc (.cells #[.int .i64 7, .string ⟨#[102, 101, 119]⟩, .slice none 0 0, .slice (some ⟨wF.heap.size, 0, none⟩) 1 1, .int .i64 (f : Int), .bool false] 183) := ⟨_, rfl⟩
  have gI : wH.grownBy wI none := by rw [hwI]; exact grown_alloc _ _ _
  have zI : wI.heap.size = wH.heap.size + 1 := by rw [hwI]; simp
  have xR2 : Bx K wH.heap.size [.int .i64 7, .string ⟨#[102, 101, 119]⟩, .slice none 0 0, .slice (some ⟨wF.heap.size, 0, none⟩) 1 1, .int .i64 (f : Int), .bool false] wI := by rw [hwI]; exact Bx.new cwH.lt [.int .i64 7, .string ⟨#[102, 101, 119]⟩, .slice none 0 0, .slice (some ⟨wF.heap.size, 0, none⟩) 1 1, .int .i64 (f : Int), .bool false] 183
  have cI := cwH.kept gI (by simp) (by simp)
  have HXa0 := Lib.hid (HXa0.out.kept gI (by simp))
  have HXr0 := Lib.hid (HXr0.out.kept gI (by simp))
  have HXa1 := Lib.hid (HXa1.out.kept gI (by simp))
  have HXr1 := Lib.hid (HXr1.out.kept gI (by simp))
  have HXa2 := Lib.hid (HXa2.out.kept gI (by simp))
  have hL0 : RolL K D wI.heap.size l (of3 (w.heap.size + 1) wD.heap.size wH.heap.size) (of3 (⟨1, [97, 108, 108], .slice (some ⟨w.heap.size, 0, none⟩) 6 6, 40, true⟩ : RolHd) ⟨2, [115, 111, 109, 101], .slice (some ⟨wB.heap.size, 0, none⟩) 3 3, 1 + (d : Int), false⟩ ⟨7, [102, 101, 119], .slice (some ⟨wF.heap.size, 0, none⟩) 1 1, (f : Int), false⟩) (fun _ => .slice none 0 0) (fun _ => []) [(w.heap.size, [.int .i64 1, .int .i64 2, .int .i64 3, .int .i64 4, .int .i64 5, .int .i64 6]), (wB.heap.size, [.int .i64 1, .int .i64 2, .int .i64 (3 + (c : Int))]), (wF.heap.size, [.int .i64 (1 + (e1 : Int))])] w wI := by
    refine ⟨hKw, HDl.out, Nat.le_refl _, fun i hi => ?_, fun i j hi hj hij => ?_, fun i hi => ?_, fun i hi => World.ownsRow_nil _ _ _ _, fun i j hi hj hij b hb => (by cases hb), fun s hs => ?_, fun i hi x hx => (by cases hx), ⟨_, cI⟩, HGwH.out.trans (grown_below gI)⟩
    · match i, hi with
      | 0, _ => simp only [of3]; omega
      | 1, _ => simp only [of3]; omega
      | 2, _ => simp only [of3]; omega
    · match i, j, hi, hj, hij with
      | 0, 0, _, _, h => exact absurd rfl h
      | 0, 1, _, _, h => simp only [of3]; omega
      | 0, 2, _, _, h => simp only [of3]; omega
      | 1, 0, _, _, h => simp only [of3]; omega
      | 1, 1, _, _, h => exact absurd rfl h
      | 1, 2, _, _, h => simp only [of3]; omega
      | 2, 0, _, _, h => simp only [of3]; omega
      | 2, 1, _, _, h => simp only [of3]; omega
      | 2, 2, _, _, h => exact absurd rfl h
    · match i, hi with
      | 0, _ => exact HXr0.out
      | 1, _ => exact HXr1.out
      | 2, _ => exact xR2
    · simp only [List.mem_cons, List.not_mem_nil, or_false] at hs
      rcases hs with rfl | rfl | rfl
      · refine ⟨HXa0.out, by omega, fun i hi => ?_, fun i hi e => (by cases e)⟩
        match i, hi with
          | 0, _ => simp only [of3]; omega
          | 1, _ => simp only [of3]; omega
          | 2, _ => simp only [of3]; omega
      · refine ⟨HXa1.out, by omega, fun i hi => ?_, fun i hi e => (by cases e)⟩
        match i, hi with
          | 0, _ => simp only [of3]; omega
          | 1, _ => simp only [of3]; omega
          | 2, _ => simp only [of3]; omega
      · refine ⟨HXa2.out, by omega, fun i hi => ?_, fun i hi e => (by cases e)⟩
        match i, hi with
          | 0, _ => simp only [of3]; omega
          | 1, _ => simp only [of3]; omega
          | 2, _ => simp only [of3]; omega
  have HL0 := Lib.hid hL0
  have HWI := Lib.hid hwI
  have HZw : Hid (w.heap.size + 1 ≤ wI.heap.size) := Lib.hid (by omega)
  have HZD : Hid (wD.heap.size < wI.heap.size ∧ wH.heap.size < wI.heap.size ∧ wF.heap.size < wH.heap.size ∧ wB.heap.size < wD.heap.size ∧ wD.heap.size < wF.heap.size ∧ w.heap.size + 1 < wB.heap.size) := Lib.hid (by omega)
  clear hL0 hwI xR2 cI gI zI cwH hgwH zwB zC zwD zE zwF zG zwH zA
  go_wp2_with fail
  rw [← HWI.out]
  obtain ⟨R, hR⟩ : ∃ R, R = (of3 (w.heap.size + 1) wD.heap.size wH.heap.size) := ⟨_, rfl⟩
  obtain ⟨hd, hhd⟩ : ∃ hd, hd = (of3 (⟨1, [97, 108, 108], .slice (some ⟨w.heap.size, 0, none⟩) 6 6, 40, true⟩ : RolHd) ⟨2, [115, 111, 109, 101], .slice (some ⟨wB.heap.size, 0, none⟩) 3 3, 1 + (d : Int), false⟩ ⟨7, [102, 101, 119], .slice (some ⟨wF.heap.size, 0, none⟩) 1 1, (f : Int), false⟩) := ⟨_, rfl⟩
  have r0 : R 0 = w.heap.size + 1 := by rw [hR]; rfl
  have r1 : R 1 = wD.heap.size := by rw [hR]; rfl
  have r2 : R 2 = wH.heap.size := by rw [hR]; rfl
  rw [← hR, ← hhd] at HL0
  have HR0 := Lib.hid r0
  have HR1 := Lib.hid r1
  have HR2 := Lib.hid r2
  have HHd := Lib.hid hhd
  clear r0 r1 r2 hR hhd
  go_loopw [32] (fun i W => ∃ k : Nat, k ≤ N ∧ i = .int .i64 k ∧ ∃ v g side, RolL K D wI.heap.size l R hd v g ([(w.heap.size, [.int .i64 1, .int .i64 2, .int .i64 3, .int .i64 4, .int .i64 5, .int .i64 6]), (wB.heap.size, [.int .i64 1, .int .i64 2, .int .i64 (3 + (c : Int))]), (wF.heap.size, [.int .i64 (1 + (e1 : Int))])] ++ side) w W ∧ GOk xs k k k g) (fun i _ => N - (intOf i).toNat)
  case atStart => exact ⟨0, by omega, rfl, _, _, [], HL0.out, by simp [GOk]⟩
  case round =>
    obtain ⟨k, hk, rfl, v, g, side, hL, hgk⟩ := hrel
    have HL := Lib.hid hL
    have HGk := Lib.hid hgk
    clear hL hgk
    by_cases hkN : k < N
    · have k1 : (k : Int) < (N : Int) := by omega
      have k0 : 0 ≤ (k : Int) := by omega
      obtain ⟨x, hx⟩ : ∃ x, xs[k]? = some x := ⟨_, List.getElem?_eq_getElem (by rw [← HN.out]; exact hkN)⟩
      have hsame : SameB a b w wr := .of_grown HL.out.gr hb (fun k e => by injection e with e; omega)
      obtain ⟨vk, va, vr, n, cap2, Ak, rfl, hn, hncap, ⟨A2, n2, c2, rfl⟩, ⟨A3, n3, c3, rfl⟩, hid, hcs⟩ := HTab.out wr hsame k x hx
      have hn4 : n ≤ 4 := by rw [hn]; exact HKl.out x (List.mem_of_getElem? hx)
      have t0 : wr.cell? ⟨b0, o0 + k * 8, none⟩ = some (.int .i64 x.id) := hcs 0 (by simp)
      have t1 : wr.cell? ⟨b0, o0 + k * 8 + 1, none⟩ = some (.string (strL x.name)) := hcs 1 (by simp)
      have t2 : wr.cell? ⟨b0, o0 + k * 8 + 2, none⟩ = some (.slice Ak n cap2) := hcs 2 (by simp)
      have t3 : wr.cell? ⟨b0, o0 + k * 8 + 3, none⟩ = some (.slice A2 n2 c2) := hcs 3 (by simp)
      have t4 : wr.cell? ⟨b0, o0 + k * 8 + 4, none⟩ = some (.int .i64 x.dflt) := hcs 4 (by simp)
      have t5 : wr.cell? ⟨b0, o0 + k * 8 + 5, none⟩ = some (.slice A3 n3 c3) := hcs 5 (by simp)
      have t6 : wr.cell? ⟨b0, o0 + k * 8 + 6, none⟩ = some (.int .i64 x.size) := hcs 6 (by simp)
      have t7 : wr.cell? ⟨b0, o0 + k * 8 + 7, none⟩ = some (.string (strL x.restr)) := hcs 7 (by simp)
      have HX := Lib.hid hx
      have Hn := Lib.hid hn
      have Hid0 := Lib.hid hid
      have mk : ∀ W : World, (Instr.makeSlice 86 (.int .i64 (n : Int)) (.int .i64 (n : Int))).run Tryz.prog W = .ok (.slice (some ⟨W.heap.size, 0, none⟩) n n) (W.alloc (.cells (Array.replicate n (Value.bool false)) 4)) := fun W => mk_bools n (by omega) W
      clear hx hn hid hcs hsame
      obtain ⟨wS, hwS⟩ : ∃ z, z = ((wr.alloc (.cells #[.int .i64 x.id, .string (strL x.name), .slice Ak n cap2, .slice A2 n2 c2, .int .i64 x.dflt, .slice A3 n3 c3, .int .i64 x.size, .string (strL x.restr)] 59)).alloc (.cells (Array.replicate n (Value.bool false)) 4)).alloc (.cells (Array.replicate n (Value.bool false)) 4) := ⟨_, rfl⟩
      have gS : wr.grownBy wS none := by rw [hwS]; exact ((grown_alloc _ _ _).trans (grown_alloc _ _ _)).trans (grown_alloc _ _ _)
      obtain ⟨pr, cr⟩ := HL.out.co
      have hKr := cr.lt
      have xT : Bx K wr.heap.size [.int .i64 x.id, .string (strL x.name), .slice Ak n cap2, .slice A2 n2 c2, .int .i64 x.dflt, .slice A3 n3 c3, .int .i64 x.size, .string (strL x.restr)] wS := by rw [hwS]; exact ((Bx.new hKr [.int .i64 x.id, .string (strL x.name), .slice Ak n cap2, .slice A2 n2 c2, .int .i64 x.dflt, .slice A3 n3 c3, .int .i64 x.size, .string (strL x.restr)] 59).alloc _).alloc _
      have xY : Bx K (wr.heap.size + 1) ((List.replicate 0 true ++ List.replicate (n - 0) false).map Value.bool) wS := by
        rw [hwS, show (List.replicate 0 true ++ List.replicate (n - 0) false).map Value.bool = List.replicate n (Value.bool false) from by simp]
        have := (Bx.newR (K := K) (W := wr.alloc (.cells #[.int .i64 x.id, .string (strL x.name), .slice Ak n cap2, .slice A2 n2 c2, .int .i64 x.dflt, .slice A3 n3 c3, .int .i64 x.size, .string (strL x.restr)] 59)) (by simp; omega) n (Value.bool false) 4).alloc (.cells (Array.replicate n (Value.bool false)) 4)
        simpa only [World.size_alloc] using this
      have xP : Bx K (wr.heap.size + 1 + 1) ((([] : List Bool) ++ List.replicate (n - 0) false).map Value.bool) wS := by
        rw [hwS, show (([] : List Bool) ++ List.replicate (n - 0) false).map Value.bool = List.replicate n (Value.bool false) from by simp]
        have := Bx.newR (K := K) (W := (wr.alloc (.cells #[.int .i64 x.id, .string (strL x.name), .slice Ak n cap2, .slice A2 n2 c2, .int .i64 x.dflt, .slice A3 n3 c3, .int .i64 x.size, .string (strL x.restr)] 59)).alloc (.cells (Array.replicate n (Value.bool false)) 4)) (by simp; omega) n (Value.bool false) 4
        simpa only [World.size_alloc] using this
      have hI0 : InL K D l wr.heap.size (wr.heap.size + 1) (wr.heap.size + 1 + 1) n 0 [.int .i64 x.id, .string (strL x.name), .slice Ak n cap2, .slice A2 n2 c2, .int .i64 x.dflt, .slice A3 n3 c3, .int .i64 x.size, .string (strL x.restr)] [] wr wS := ⟨xY, xP, rfl, xT, ⟨_, cr.kept gS (by simp) (by simp)⟩, grown_below gS⟩
      have HI0 := Lib.hid hI0
      have HWS := Lib.hid hwS
      clear hI0 hwS gS cr xT xY xP
      go_wp2_with fail
      clear mk t0 t1 t2 t3 t4 t5 t6 t7
      rw [← HWS.out]
      obtain ⟨w0, hw0⟩ : ∃ z, z = wr := ⟨_, rfl⟩
      subst hw0
      go_loopw [46] (fun i W => ∃ j : Nat, j ≤ n ∧ i = .int .i64 j ∧ ∃ ps, InL K D l w0.heap.size (w0.heap.size + 1) (w0.heap.size + 1 + 1) n j [.int .i64 x.id, .string (strL x.name), .slice Ak n cap2, .slice A2 n2 c2, .int .i64 x.dflt, .slice A3 n3 c3, .int .i64 x.size, .string (strL x.restr)] ps w0 W) (fun i _ => n - (intOf i).toNat)
      case atStart => exact ⟨0, by omega, rfl, _, HI0.out⟩
      case round =>
        obtain ⟨j, hj, rfl, ps, hI⟩ := hrel
        have HI := Lib.hid hI
        obtain ⟨pj, cj⟩ := hI.co
        have hKD : K < w0.heap.size ∧ (l ≠ [] → D < w0.heap.size) := ⟨hKr, fun e => Nat.lt_of_lt_of_le (HDl.out e) HL.out.gr.size⟩
        have HKD := Lib.hid hKD
        clear hI hKD
        by_cases hjn : j < n
        · have j1 : (j : Int) < (n : Int) := by omega
          have j0 : 0 ≤ (j : Int) := by omega
          have HN5 := Lib.hid (next4 cj)
          clear cj
          go_wp2_with fail
          refine HN5.out.mono ?_
          rintro e w2 ⟨q, hq, rfl, hg2, p2, c2⟩
          have aq : (q : Int) < 4 := by omega
          have bq : 0 ≤ (q : Int) := by omega
          have yj : w2.cell? ⟨w0.heap.size + 1, j, none⟩ = some (.bool false) := by
            have := (HI.out.yes.chose hg2).c j (by simp; omega)
            rw [this]
            simp
          have pj2 : w2.cell? ⟨w0.heap.size + 1 + 1, j, none⟩ = some (.bool false) := by
            have := (HI.out.part.chose hg2).c j (by have := HI.out.len; simp; omega)
            rw [this]
            have hl := HI.out.len
            simp [hl]
          have fy := (HI.out.yes.chose hg2).f j
          have fp := (HI.out.part.chose hg2).f j
          have HI2 := Lib.hid (HI.out.next hjn (decide (0 < q)) hg2 c2 (by omega) (by omega) (by omega) (by omega) (by omega) HKD.out.1 HKD.out.2)
          clear hg2 c2
          go_wp2_with fail
          go_roundw
          case rel => exact ⟨j + 1, by omega, by simp, _, HI2.out⟩
          case measure => simp [intOf]; omega
        · obtain rfl : n = j := by omega
          have hyes : Bx K (w0.heap.size + 1) ((List.replicate n true).map Value.bool) wr := by have := HI.out.yes; rwa [Nat.sub_self, List.replicate_zero, List.append_nil] at this
          have hpart : Bx K (w0.heap.size + 1 + 1) (ps.map Value.bool) wr := by have := HI.out.part; rwa [Nat.sub_self, List.replicate_zero, List.append_nil] at this
          have hL1 := HL.out.chose HI.out.gr cj
          have fT := HL.out.fresh (L := w0.heap.size) (by omega)
          have fY := HL.out.fresh (L := w0.heap.size + 1) (by omega)
          have fP := HL.out.fresh (L := w0.heap.size + 1 + 1) (by omega)
          have hL2 := ((hL1.beside HI.out.tab fT.2.2 fT.1 fT.2.1).beside hyes fY.2.2 fY.1 fY.2.1).beside hpart fP.2.2 fP.1 fP.2.1
          have hlen := HGk.out.len
          have hps := HI.out.len
          have HPs := Lib.hid hps
          have HL2 := Lib.hid hL2
          have tt := HI.out.tab.c 0 (by simp)
          have tt0 : wr.cell? ⟨w0.heap.size, 0, none⟩ = some (.int .i64 x.id) := tt
          have v0 : wr.cell? ⟨w.heap.size + 1, 2, none⟩ = some (v 0) := by have := (HL2.out.box 0 (by decide)).c 2 (by simp [hdCells]); rw [HR0.out] at this; exact this
          have hgl : (g 0).length ≤ 8 := by have := hlen.1; have := HN.out; omega
          have hbw := HL2.out.BW
          clear hyes hpart hL1 fT fY fP hL2 hlen tt cj
          go_wp2_with (at_builtin; (refine wpList_append_lies _ rfl (.tmp 60) (.tmp 65) 181 rfl wI.heap.size 185 i0 _ 4 40 Tryz.underlying181 hi0 hz0 hy1 hy2 rfl (by decide) (v 0) (g 0).length _ rfl (World.ownsRow.alloc (HL2.out.own 0 (by decide)) _) ⟨wr.heap.size, 0, none⟩ 1 1 [.int .i64 x.id, .bool true, .bool true, .slice (some ⟨w0.heap.size + 1, 0, none⟩) n n] rfl rfl (World.news_of_block (cs := #[.int .i64 x.id, .bool true, .bool true, .slice (some ⟨w0.heap.size + 1, 0, none⟩) n n]) (t := 185) (fr := (0, 0)) (heap_alloc_new wr _)) (by intro u hu; simp at hu; rcases hu with rfl | rfl | rfl | rfl <;> rfl) (by decide) (by unfold maxLen; omega) (by omega) (by simp; omega) (wr.heap.size + 1) (by simp) ?_; intro g8 cap8 w8 hO8 hg8 hor8 hlt8; have k8 := HL2.out.store (by decide) hg8; rw [HR0.out] at k8; have o8 := k8.1; have f8 := k8.2; have a8 := HL2.out.app 0 (by decide) (L := w0.heap.size + 1) ⟨x.id, true, true, .slice (some ⟨w0.heap.size + 1, 0, none⟩) n n, List.replicate n true⟩ Hid0.out (by simp) (by simp; omega) (List.mem_cons_of_mem _ (List.mem_cons_self ..)) hO8 hg8 hor8; rw [HR0.out] at a8; obtain ⟨w3, hw3⟩ : ∃ z, z = w8.setCell ⟨w.heap.size + 1, 2, none⟩ (.slice (some ⟨g8, 0, none⟩) ((g 0).length + 1) cap8) := ⟨_, rfl⟩; rw [← hw3] at a8; have HW3 := Lib.hid hw3; have HA3 : Hid (RolC xs K D wI.heap.size l R hd ((w0.heap.size + 1 + 1, ps.map Value.bool) :: (w0.heap.size + 1, (List.replicate n true).map Value.bool) :: (w0.heap.size, [.int .i64 x.id, .string (strL x.name), .slice Ak n cap2, .slice A2 n2 c2, .int .i64 x.dflt, .slice A3 n3 c3, .int .i64 x.size, .string (strL x.restr)]) :: ([(w.heap.size, [.int .i64 1, .int .i64 2, .int .i64 3, .int .i64 4, .int .i64 5, .int .i64 6]), (wB.heap.size, [.int .i64 1, .int .i64 2, .int .i64 (3 + (c : Int))]), (wF.heap.size, [.int .i64 (1 + (e1 : Int))])] ++ side)) (k + 1) k k w w3) := Lib.hid ⟨_, _, a8, HGk.out.first HX.out (by simp [GrantW.d, allG, Hn.out])⟩; clear a8 hw3 k8 hO8 hg8 hor8 hlt8))
          clear v0 tt0
          rw [← HW3.out]
          obtain ⟨vA, gA, hLA, hGA⟩ := HA3.out
          have HLA := Lib.hid hLA
          have HGA3 := Lib.hid hGA
          obtain ⟨p3, c3⟩ := hLA.co
          have HN6 := Lib.hid (next4 c3)
          clear hLA hGA c3 hbw
          refine HN6.out.mono ?_
          rintro e w5 ⟨q5, hq5, rfl, hg5, p5, c5⟩
          have aq5 : (q5 : Int) < 4 := by omega
          have bq5 : 0 ≤ (q5 : Int) := by omega
          have HL5 := Lib.hid (HLA.out.chose hg5 c5)
          have HCd5 := Lib.hid c5.drew
          clear hg5 c5
          go_upto_if 70 with (fail)
          go_cut [] from 70 to 84 (fun wx => RolC xs K D wI.heap.size l R hd ((w0.heap.size + 1 + 1, ps.map Value.bool) :: (w0.heap.size + 1, (List.replicate n true).map Value.bool) :: (w0.heap.size, [.int .i64 x.id, .string (strL x.name), .slice Ak n cap2, .slice A2 n2 c2, .int .i64 x.dflt, .slice A3 n3 c3, .int .i64 x.size, .string (strL x.restr)]) :: ([(w.heap.size, [.int .i64 1, .int .i64 2, .int .i64 3, .int .i64 4, .int .i64 5, .int .i64 6]), (wB.heap.size, [.int .i64 1, .int .i64 2, .int .i64 (3 + (c : Int))]), (wF.heap.size, [.int .i64 (1 + (e1 : Int))])] ++ side)) (k + 1) (k + 1) k w wx)
          case first =>
            by_cases hq0 : 0 < q5
            · have tw5 : w5.cell? ⟨w0.heap.size, 0, none⟩ = some (.int .i64 x.id) := (HL5.out.sides _ (List.mem_cons_of_mem _ (List.mem_cons_of_mem _ (List.mem_cons_self ..)))).1.c 0 (by simp)
              have vw5 : w5.cell? ⟨wD.heap.size, 2, none⟩ = some (vA 1) := (by have := (HL5.out.box 1 (by decide)).c 2 (by simp [hdCells]); rw [HR1.out] at this; exact this)
              have hgl1 : (gA 1).length ≤ 8 := by have := HGA3.out.len.2.1; have := HN.out; omega
              go_wp2_with fail
              go_region_law (first | (go_simp; go_at_call 30; ((with_reducible refine (next4 HCd5.out).mono ?_); rintro e w6 ⟨q6, hq6, rfl, hg6, p6, c6⟩; have hg6' : w5.grownBy w6 (some K) := ⟨hg6.os, hg6.tape, hg6.output, hg6.size, hg6.block⟩; have hL6 := HL5.out.chose hg6' c6; have tw6 : w6.cell? ⟨w0.heap.size, 0, none⟩ = some (.int .i64 x.id) := (hL6.sides _ (List.mem_cons_of_mem _ (List.mem_cons_of_mem _ (List.mem_cons_self ..)))).1.c 0 (by simp); have vw6 : w6.cell? ⟨wD.heap.size, 2, none⟩ = some (vA 1) := (by have := (hL6.box 1 (by decide)).c 2 (by simp [hdCells]); rw [HR1.out] at this; exact this); have aq6 : (q6 : Int) < 4 := (by omega); have bq6 : 0 ≤ (q6 : Int) := (by omega); have HL6 := Lib.hid hL6; have HC6 := Lib.hid c6; clear hL6 c6 hg6 hg6')) | (go_simp; go_at_call 29; ((with_reducible refine (cobool_any HC6.out).mono ?_); rintro e w7 ⟨b7, rfl, hg7, p7, c7⟩; have hL7 := HL6.out.chose hg7 c7; have tw7 : w7.cell? ⟨w0.heap.size, 0, none⟩ = some (.int .i64 x.id) := (hL7.sides _ (List.mem_cons_of_mem _ (List.mem_cons_of_mem _ (List.mem_cons_self ..)))).1.c 0 (by simp); have vw7 : w7.cell? ⟨wD.heap.size, 2, none⟩ = some (vA 1) := (by have := (hL7.box 1 (by decide)).c 2 (by simp [hdCells]); rw [HR1.out] at this; exact this); have z7 := (hL7.box 1 (by decide)).lt; rw [HR1.out] at z7; have hbw7 := hL7.BW; have HL7 := Lib.hid hL7; clear hL7 c7 hg7)) | (refine step_append_lies _ rfl (.tmp 72) (.tmp 82) 181 rfl wI.heap.size 185 i0 _ 4 40 Tryz.underlying181 hi0 hz0 hy1 hy2 rfl (by decide) (vA 1) (gA 1).length _ (by rfl) (World.ownsRow.alloc (HL7.out.own 1 (by decide)) _) ⟨w7.heap.size, 0, none⟩ 1 1 [.int .i64 x.id, .bool (decide (0 < q6)), .bool b7, .slice (some ⟨w0.heap.size + 1 + 1, 0, none⟩) n n] (by rfl) rfl (World.news_of_block (cs := #[.int .i64 x.id, .bool (decide (0 < q6)), .bool b7, .slice (some ⟨w0.heap.size + 1 + 1, 0, none⟩) n n]) (t := 185) (fr := (0, 0)) (heap_alloc_new w7 _)) (by intro u hu; simp at hu; rcases hu with rfl | rfl | rfl | rfl <;> rfl) (by decide) (by unfold maxLen; omega) (by omega) (by simp; omega) (w7.heap.size + 1) (by simp) ?_; intro g8 cap8 w8 hO8 hg8 hor8 hlt8; have k8 := HL7.out.store (by decide) hg8; rw [HR1.out] at k8; have o8 := k8.1; have f8 := k8.2; have a8 := HL7.out.app 1 (by decide) (L := w0.heap.size + 1 + 1) ⟨x.id, decide (0 < q6), b7, .slice (some ⟨w0.heap.size + 1 + 1, 0, none⟩) n n, ps⟩ Hid0.out (by simp [HPs.out]) (by rw [HPs.out]; omega) (List.mem_cons_self ..) hO8 hg8 hor8; rw [HR1.out] at a8; have HA8 : Hid (RolC xs K D wI.heap.size l R hd ((w0.heap.size + 1 + 1, ps.map Value.bool) :: (w0.heap.size + 1, (List.replicate n true).map Value.bool) :: (w0.heap.size, [.int .i64 x.id, .string (strL x.name), .slice Ak n cap2, .slice A2 n2 c2, .int .i64 x.dflt, .slice A3 n3 c3, .int .i64 x.size, .string (strL x.restr)]) :: ([(w.heap.size, [.int .i64 1, .int .i64 2, .int .i64 3, .int .i64 4, .int .i64 5, .int .i64 6]), (wB.heap.size, [.int .i64 1, .int .i64 2, .int .i64 (3 + (c : Int))]), (wF.heap.size, [.int .i64 (1 + (e1 : Int))])] ++ side)) (k + 1) (k + 1) k w (w8.setCell ⟨wD.heap.size, 2, none⟩ (.slice (some ⟨g8, 0, none⟩) ((gA 1).length + 1) cap8))) := Lib.hid ⟨_, _, a8, HGA3.out.second HX.out (by simp [gkey, tkey, HPs.out, Hn.out])⟩; clear a8 k8 hO8 hg8 hor8 hlt8))
              all_goals go_wp2_with fail
              all_goals go_meet
              all_goals exact HA8.out
            · go_wp2_with fail
              go_meet
              exact ⟨_, _, HL5.out, HGA3.out.second' HX.out⟩
          case rest =>
            obtain ⟨vB, gB, hLB, hGB⟩ := hcut
            obtain ⟨wK, hwK⟩ : ∃ z, z = wc := ⟨_, rfl⟩
            subst hwK
            have HLB := Lib.hid hLB
            have HGB := Lib.hid hGB
            obtain ⟨pB, cB⟩ := hLB.co
            have HN7 := Lib.hid (cobool_any cB)
            clear hLB hGB cB
            go_wp2_with fail
            refine HN7.out.mono ?_
            rintro e wM ⟨bb, rfl, hgM, pM, cM⟩
            have HLM := Lib.hid (HLB.out.chose hgM cM)
            have HCdM := Lib.hid cM.drew
            clear hgM cM
            cases bb
            · have HZ : Hid (RolC xs K D wI.heap.size l R hd ((w0.heap.size + 1 + 1, ps.map Value.bool) :: (w0.heap.size + 1, (List.replicate n true).map Value.bool) :: (w0.heap.size, [.int .i64 x.id, .string (strL x.name), .slice Ak n cap2, .slice A2 n2 c2, .int .i64 x.dflt, .slice A3 n3 c3, .int .i64 x.size, .string (strL x.restr)]) :: ([(w.heap.size, [.int .i64 1, .int .i64 2, .int .i64 3, .int .i64 4, .int .i64 5, .int .i64 6]), (wB.heap.size, [.int .i64 1, .int .i64 2, .int .i64 (3 + (c : Int))]), (wF.heap.size, [.int .i64 (1 + (e1 : Int))])] ++ side)) (k + 1) (k + 1) (k + 1) w wM) := Lib.hid ⟨_, _, HLM.out, HGB.out.third' HX.out⟩
              go_wp2_with fail
              go_roundw
              case rel => exact ⟨k + 1, by omega, by simp, HZ.out.back⟩
              case measure => simp [intOf]; omega
            · have twM : wM.cell? ⟨w0.heap.size, 0, none⟩ = some (.int .i64 x.id) := (HLM.out.sides _ (List.mem_cons_of_mem _ (List.mem_cons_of_mem _ (List.mem_cons_self ..)))).1.c 0 (by simp)
              have vwM : wM.cell? ⟨wH.heap.size, 2, none⟩ = some (vB 2) := (by have := (HLM.out.box 2 (by decide)).c 2 (by simp [hdCells]); rw [HR2.out] at this; exact this)
              have hgl2 : (gB 2).length ≤ 8 := by have := HGB.out.len.2.2; have := HN.out; omega
              go_wp2_with fail
              go_region_law (first | (go_simp; go_at_call 29; (first | ((with_reducible refine (cobool_any HCdM.out).mono ?_); rintro e w6 ⟨b6, rfl, hg6, p6, c6⟩; have hg6' : wM.grownBy w6 (some K) := ⟨hg6.os, hg6.tape, hg6.output, hg6.size, hg6.block⟩; have hL6 := HLM.out.chose hg6' c6; have tw6 : w6.cell? ⟨w0.heap.size, 0, none⟩ = some (.int .i64 x.id) := (hL6.sides _ (List.mem_cons_of_mem _ (List.mem_cons_of_mem _ (List.mem_cons_self ..)))).1.c 0 (by simp); have vw6 : w6.cell? ⟨wH.heap.size, 2, none⟩ = some (vB 2) := (by have := (hL6.box 2 (by decide)).c 2 (by simp [hdCells]); rw [HR2.out] at this; exact this); have HL6 := Lib.hid hL6; have HC6 := Lib.hid c6; clear hL6 c6 hg6 hg6') | ((with_reducible refine (cobool_any HC6.out).mono ?_); rintro e w7 ⟨b7, rfl, hg7, p7, c7⟩; have hL7 := HL6.out.chose hg7 c7; have tw7 : w7.cell? ⟨w0.heap.size, 0, none⟩ = some (.int .i64 x.id) := (hL7.sides _ (List.mem_cons_of_mem _ (List.mem_cons_of_mem _ (List.mem_cons_self ..)))).1.c 0 (by simp); have vw7 : w7.cell? ⟨wH.heap.size, 2, none⟩ = some (vB 2) := (by have := (hL7.box 2 (by decide)).c 2 (by simp [hdCells]); rw [HR2.out] at this; exact this); have z7 := (hL7.box 2 (by decide)).lt; rw [HR2.out] at z7; have hbw7 := hL7.BW; have HL7 := Lib.hid hL7; clear hL7 c7 hg7))) | (refine step_append_lies _ rfl (.tmp 88) (.tmp 97) 181 rfl wI.heap.size 185 i0 _ 4 40 Tryz.underlying181 hi0 hz0 hy1 hy2 rfl (by decide) (vB 2) (gB 2).length _ (by rfl) (World.ownsRow.alloc (HL7.out.own 2 (by decide)) _) ⟨w7.heap.size, 0, none⟩ 1 1 [.int .i64 x.id, .bool b6, .bool b7, .slice (some ⟨w0.heap.size + 1, 0, none⟩) n n] (by rfl) rfl (World.news_of_block (cs := #[.int .i64 x.id, .bool b6, .bool b7, .slice (some ⟨w0.heap.size + 1, 0, none⟩) n n]) (t := 185) (fr := (0, 0)) (heap_alloc_new w7 _)) (by intro u hu; simp at hu; rcases hu with rfl | rfl | rfl | rfl <;> rfl) (by decide) (by unfold maxLen; omega) (by omega) (by simp; omega) (w7.heap.size + 1) (by simp) ?_; intro g8 cap8 w8 hO8 hg8 hor8 hlt8; have k8 := HL7.out.store (by decide) hg8; rw [HR2.out] at k8; have o8 := k8.1; have f8 := k8.2; have a8 := HL7.out.app 2 (by decide) (L := w0.heap.size + 1) ⟨x.id, b6, b7, .slice (some ⟨w0.heap.size + 1, 0, none⟩) n n, List.replicate n true⟩ Hid0.out (by simp) (by simp; omega) (List.mem_cons_of_mem _ (List.mem_cons_self ..)) hO8 hg8 hor8; rw [HR2.out] at a8; have HA8 : Hid (RolC xs K D wI.heap.size l R hd ((w0.heap.size + 1 + 1, ps.map Value.bool) :: (w0.heap.size + 1, (List.replicate n true).map Value.bool) :: (w0.heap.size, [.int .i64 x.id, .string (strL x.name), .slice Ak n cap2, .slice A2 n2 c2, .int .i64 x.dflt, .slice A3 n3 c3, .int .i64 x.size, .string (strL x.restr)]) :: ([(w.heap.size, [.int .i64 1, .int .i64 2, .int .i64 3, .int .i64 4, .int .i64 5, .int .i64 6]), (wB.heap.size, [.int .i64 1, .int .i64 2, .int .i64 (3 + (c : Int))]), (wF.heap.size, [.int .i64 (1 + (e1 : Int))])] ++ side)) (k + 1) (k + 1) (k + 1) w (w8.setCell ⟨wH.heap.size, 2, none⟩ (.slice (some ⟨g8, 0, none⟩) ((gB 2).length + 1) cap8))) := Lib.hid ⟨_, _, a8, HGB.out.third HX.out (by simp [gkey, tkey, Hn.out])⟩; clear a8 k8 hO8 hg8 hor8 hlt8))
              all_goals go_wp2_with fail
              all_goals go_roundw
              all_goals first
                | exact ⟨k + 1, by omega, by simp, HA8.out.back⟩
                | (simp [intOf]; omega)
    · obtain rfl : N = k := by omega
      clear hkN
      obtain ⟨A0, c0, eq0⟩ := own_shapeH (HL.out.own 0 (by decide))
      obtain ⟨A1, c1, eq1⟩ := own_shapeH (HL.out.own 1 (by decide))
      obtain ⟨A2, c2, eq2⟩ := own_shapeH (HL.out.own 2 (by decide))
      have bx0 : Bx K (w.heap.size + 1) [.int .i64 1, .string ⟨#[97, 108, 108]⟩, .slice A0 (g 0).length c0, .slice (some ⟨w.heap.size, 0, none⟩) 6 6, .int .i64 40, .bool true] wr := by have := HL.out.box 0 (by decide); rw [HR0.out, HHd.out, eq0] at this; exact this
      have m0_0 : wr.cell? ⟨w.heap.size + 1, 0, none⟩ = some (.int .i64 1) := bx0.c 0 (by simp)
      have m0_1 : wr.cell? ⟨w.heap.size + 1, 1, none⟩ = some (.string ⟨#[97, 108, 108]⟩) := bx0.c 1 (by simp)
      have m0_2 : wr.cell? ⟨w.heap.size + 1, 2, none⟩ = some (.slice A0 (g 0).length c0) := bx0.c 2 (by simp)
      have m0_3 : wr.cell? ⟨w.heap.size + 1, 3, none⟩ = some (.slice (some ⟨w.heap.size, 0, none⟩) 6 6) := bx0.c 3 (by simp)
      have m0_4 : wr.cell? ⟨w.heap.size + 1, 4, none⟩ = some (.int .i64 40) := bx0.c 4 (by simp)
      have m0_5 : wr.cell? ⟨w.heap.size + 1, 5, none⟩ = some (.bool true) := bx0.c 5 (by simp)
      have bx1 : Bx K (wD.heap.size) [.int .i64 2, .string ⟨#[115, 111, 109, 101]⟩, .slice A1 (g 1).length c1, .slice (some ⟨wB.heap.size, 0, none⟩) 3 3, .int .i64 (1 + (d : Int)), .bool false] wr := by have := HL.out.box 1 (by decide); rw [HR1.out, HHd.out, eq1] at this; exact this
      have m1_0 : wr.cell? ⟨wD.heap.size, 0, none⟩ = some (.int .i64 2) := bx1.c 0 (by simp)
      have m1_1 : wr.cell? ⟨wD.heap.size, 1, none⟩ = some (.string ⟨#[115, 111, 109, 101]⟩) := bx1.c 1 (by simp)
      have m1_2 : wr.cell? ⟨wD.heap.size, 2, none⟩ = some (.slice A1 (g 1).length c1) := bx1.c 2 (by simp)
      have m1_3 : wr.cell? ⟨wD.heap.size, 3, none⟩ = some (.slice (some ⟨wB.heap.size, 0, none⟩) 3 3) := bx1.c 3 (by simp)
      have m1_4 : wr.cell? ⟨wD.heap.size, 4, none⟩ = some (.int .i64 (1 + (d : Int))) := bx1.c 4 (by simp)
      have m1_5 : wr.cell? ⟨wD.heap.size, 5, none⟩ = some (.bool false) := bx1.c 5 (by simp)
      have bx2 : Bx K (wH.heap.size) [.int .i64 7, .string ⟨#[102, 101, 119]⟩, .slice A2 (g 2).length c2, .slice (some ⟨wF.heap.size, 0, none⟩) 1 1, .int .i64 (f : Int), .bool false] wr := by have := HL.out.box 2 (by decide); rw [HR2.out, HHd.out, eq2] at this; exact this
      have m2_0 : wr.cell? ⟨wH.heap.size, 0, none⟩ = some (.int .i64 7) := bx2.c 0 (by simp)
      have m2_1 : wr.cell? ⟨wH.heap.size, 1, none⟩ = some (.string ⟨#[102, 101, 119]⟩) := bx2.c 1 (by simp)
      have m2_2 : wr.cell? ⟨wH.heap.size, 2, none⟩ = some (.slice A2 (g 2).length c2) := bx2.c 2 (by simp)
      have m2_3 : wr.cell? ⟨wH.heap.size, 3, none⟩ = some (.slice (some ⟨wF.heap.size, 0, none⟩) 1 1) := bx2.c 3 (by simp)
      have m2_4 : wr.cell? ⟨wH.heap.size, 4, none⟩ = some (.int .i64 (f : Int)) := bx2.c 4 (by simp)
      have m2_5 : wr.cell? ⟨wH.heap.size, 5, none⟩ = some (.bool false) := bx2.c 5 (by simp)
      have HE0 := Lib.hid eq0
      have HE1 := Lib.hid eq1
      have HE2 := Lib.hid eq2
      clear eq0 eq1 eq2 bx0 bx1 bx2
      go_wp2_with fail
      go_ret
      have hO := HL.out.alloc (.cells #[.int .i64 1, .string ⟨#[97, 108, 108]⟩, .slice A0 (g 0).length c0, .slice (some ⟨w.heap.size, 0, none⟩) 6 6, .int .i64 40, .bool true, .int .i64 2, .string ⟨#[115, 111, 109, 101]⟩, .slice A1 (g 1).length c1, .slice (some ⟨wB.heap.size, 0, none⟩) 3 3, .int .i64 (1 + (d : Int)), .bool false, .int .i64 7, .string ⟨#[102, 101, 119]⟩, .slice A2 (g 2).length c2, .slice (some ⟨wF.heap.size, 0, none⟩) 1 1, .int .i64 (f : Int), .bool false] 183)
      have q0 := hO.row (i := 0) (by decide)
      have q1 := hO.row (i := 1) (by decide)
      have q2 := hO.row (i := 2) (by decide)
      rw [HE0.out] at q0
      rw [HE1.out] at q1
      rw [HE2.out] at q2
      have s0 := hO.sides (w.heap.size, [.int .i64 1, .int .i64 2, .int .i64 3, .int .i64 4, .int .i64 5, .int .i64 6]) (by simp)
      have s1 := hO.sides (wB.heap.size, [.int .i64 1, .int .i64 2, .int .i64 (3 + (c : Int))]) (by simp)
      have s2 := hO.sides (wF.heap.size, [.int .i64 (1 + (e1 : Int))]) (by simp)
      have i0 := ints_lit (n := 6) [1, 2, 3, 4, 5, 6] s0.1 s0.2.1 s0.1.lt rfl (by decide) (by
        intro z hz
        simp only [List.mem_cons, List.not_mem_nil, or_false] at hz
        rcases hz with rfl | rfl | rfl | rfl | rfl | rfl <;> exact i64_of (by omega))
      have i1 := ints_lit (n := 3) [1, 2, 3 + (c : Int)] s1.1 s1.2.1 s1.1.lt rfl (by decide) (by
        intro z hz
        simp only [List.mem_cons, List.not_mem_nil, or_false] at hz
        rcases hz with rfl | rfl | rfl <;> exact i64_of (by omega))
      have i2 := ints_lit (n := 1) [1 + (e1 : Int)] s2.1 s2.2.1 s2.1.lt rfl (by decide) (by
        intro z hz
        simp only [List.mem_cons, List.not_mem_nil, or_false] at hz
        rcases hz with rfl <;> exact i64_of (by omega))
      obtain ⟨k0, k1, k2⟩ := HGk.out
      rw [HN.out, List.take_length] at k0 k1 k2
      refine ⟨_, [⟨1, [97, 108, 108], (g 0).map GrantW.d, [1, 2, 3, 4, 5, 6], 40, true⟩, ⟨2, [115, 111, 109, 101], (g 1).map GrantW.d, [1, 2, 3 + (c : Int)], 1 + (d : Int), false⟩, ⟨7, [102, 101, 119], (g 2).map GrantW.d, [1 + (e1 : Int)], (f : Int), false⟩], rfl, ⟨c, d, e1, f, (g 1).map GrantW.d, (g 2).map GrantW.d, Hvc.out, Hvd.out, Hve1.out, Hvf.out, by rw [List.map_map]; exact k1, by rw [List.map_map]; exact k2, by rw [k0]⟩, ?_, hO.gr, hO.co⟩
      refine rowH_lit (P := RoleV) (sz := 6) [([.int .i64 1, .string ⟨#[97, 108, 108]⟩, .slice A0 (g 0).length c0, .slice (some ⟨w.heap.size, 0, none⟩) 6 6, .int .i64 40, .bool true], (⟨1, [97, 108, 108], (g 0).map GrantW.d, [1, 2, 3, 4, 5, 6], 40, true⟩ : RoleD)), ([.int .i64 2, .string ⟨#[115, 111, 109, 101]⟩, .slice A1 (g 1).length c1, .slice (some ⟨wB.heap.size, 0, none⟩) 3 3, .int .i64 (1 + (d : Int)), .bool false], (⟨2, [115, 111, 109, 101], (g 1).map GrantW.d, [1, 2, 3 + (c : Int)], 1 + (d : Int), false⟩ : RoleD)), ([.int .i64 7, .string ⟨#[102, 101, 119]⟩, .slice A2 (g 2).length c2, .slice (some ⟨wF.heap.size, 0, none⟩) 1 1, .int .i64 (f : Int), .bool false], (⟨7, [102, 101, 119], (g 2).map GrantW.d, [1 + (e1 : Int)], (f : Int), false⟩ : RoleD))] (fun q hq => ?_) HL.out.gr.size (by simp) rfl (by decide) (by decide) (fun j hj => ?_) (fun q hq w2 B hs hB => ?_)
      · simp only [List.mem_cons, List.not_mem_nil, or_false] at hq
        rcases hq with rfl | rfl | rfl <;> rfl
      · rw [World.cell?_alloc_new, List.getElem?_toArray]
        exact List.getElem?_eq_getElem hj
      · simp only [List.mem_cons, List.not_mem_nil, or_false] at hq
        rcases hq with rfl | rfl | rfl
        · exact ⟨_, _, rfl, i64_of (x := 1) (by decide), txtT (l := [97, 108, 108]) (by decide) (by decide), q0 w2 B hs hB, i0 w2 B hs hB, i64_of (x := 40) (by decide)⟩
        · exact ⟨_, _, rfl, i64_of (x := 2) (by decide), txtT (l := [115, 111, 109, 101]) (by decide) (by decide), q1 w2 B hs hB, i1 w2 B hs hB, i64_of (x := 1 + (d : Int)) (by omega)⟩
        · exact ⟨_, _, rfl, i64_of (x := 7) (by decide), txtT (l := [102, 101, 119]) (by decide) (by decide), q2 w2 B hs hB, i2 w2 B hs hB, i64_of (x := (f : Int)) (by omega)⟩
end Go.Proofs.YtldgjahpmlafgaaGreat
