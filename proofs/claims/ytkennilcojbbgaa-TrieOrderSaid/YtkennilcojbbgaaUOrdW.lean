/- Layer 12: the walk of TrieOrder. -/
import Derived.Test.YtkennilcojbbgaaUOrdP
namespace Go.Proofs.Ytkennilcojbbgaa
open Go.RowKit
set_option maxRecDepth 100000 in
set_option maxHeartbeats 8000000 in
theorem order_anyU (w : World) (x0 : Int) (A1 : Option Addr) (n1 c1 : Nat) (qs1 : List UOp) (hn1 : qs1.length = n1) (hc1 : n1 ≤ c1) (hm1 : c1 ≤ 9223372036854775807) (hok1 : ∀ q ∈ qs1, q.ok) (hr1 : OpsU w A1 qs1)
    (A2 : Option Addr) (n2 c2 : Nat) (qs2 : List UOp) (hn2 : qs2.length = n2) (hc2 : n2 ≤ c2) (hm2 : c2 ≤ 9223372036854775807) (hok2 : ∀ q ∈ qs2, q.ok) (hr2 : OpsU w A2 qs2) (v : Nat) (hv : v < 2 ^ 128) :
    Calls Try.prog 6 #[.int .i64 x0, .slice A1 n1 c1, .slice A2 n2 c2, .agg #[.int .u64 (hi v), .int .u64 (lo v)]] w (RetX (.bool true) w) := by
  have HN1 := Lib.hid hn1
  have HOK1 := Lib.hid hok1
  have HR1 := Lib.hid hr1
  have HN2 := Lib.hid hn2
  have HOK2 := Lib.hid hok2
  have HR2 := Lib.hid hr2
  obtain ⟨i0, hi0, hz0, hy1, hy2⟩ := info_partsU info_opU
  have HI0 := Lib.hid hi0
  have HZ0 := Lib.hid hz0
  have HY1 := Lib.hid hy1
  have HY2 := Lib.hid hy2
  obtain ⟨m1, hmm1⟩ : ∃ m1 : Nat, m1 = min n1 16 := ⟨_, rfl⟩
  obtain ⟨m2, hmm2⟩ : ∃ m2 : Nat, m2 = min n2 16 := ⟨_, rfl⟩
  have hmin1 : min (n1 : Int) 16 = (m1 : Int) := by omega
  have hmin2 : min (n2 : Int) 16 = (m2 : Int) := by omega
  have hm1n : m1 ≤ n1 := by omega
  have hm2n : m2 ≤ n2 := by omega
  have hm116 : m1 ≤ 16 := by omega
  have hm216 : m2 ≤ 16 := by omega
  obtain ⟨b, hb⟩ : ∃ b : Nat, (b : Int) = 1 + x0 % 128 := ⟨(1 + x0 % 128).toNat, by omega⟩
  have hb1 : 1 ≤ b := by omega
  have hb8 : b ≤ 128 := by omega
  have hmask : wrap64 (1 + bits .and .i64 x0 127) = (b : Int) := by
    have h1 := i64_mask x0 7 (by decide)
    rw [show ((2 ^ 7 - 1 : Nat) : Int) = 127 from rfl, show ((2 ^ 7 : Nat) : Int) = 128 from rfl] at h1
    rw [h1, hb]
    unfold wrap64
    omega
  have hbU : bitsU (b : Int) = b := by unfold bitsU; omega
  obtain ⟨y, hy⟩ : ∃ y, y = bits .and .i64 x0 127 := ⟨_, rfl⟩
  rw [← hy] at hmask
  have HMASK := Lib.hid hmask
  have HY := Lib.hid hy
  obtain ⟨w0, hw0⟩ : ∃ w0, w0 = w.alloc (.cells #[.int .u64 (hi v), .int .u64 (lo v)] 29) := ⟨_, rfl⟩
  have HW0 := Lib.hid hw0
  have B0 : Hid (Below w.heap.size w w0) := Lib.hid (by rw [hw0]; exact (Below.refl _ w).alloc (Nat.le_refl _) _)
  have V0 : Hid (w0.heap[w.heap.size]? = some (.cells #[.int .u64 (hi v), .int .u64 (lo v)] 29 (0, 0))) := Lib.hid (by rw [hw0]; exact heap_alloc_new _ _)
  have hz00 : w0.heap.size = w.heap.size + 1 := by rw [hw0]; simp
  have HZ00 := Lib.hid hz00
  clear hn1 hok1 hr1 hn2 hok2 hr2 hi0 hz0 hy1 hy2 hmm1 hmm2 hw0 hz00 hy hmask hb
  go_enter Try.func6, Try.ntmps6
  go_wp2_with fail
  rw [← HY.out, HMASK.out, ← HW0.out]
  refine (s_new b w0).mono ?_
  rintro e w1 ⟨rfl, hb1w, hz1, hS1⟩
  rw [hbU] at hS1
  have S1 := Lib.hid hS1
  have B1 := Lib.hid hb1w
  have Z1 := Lib.hid hz1
  clear hb1w hz1 hS1
  go_wp2_with fail
  refine (s_new b w1).mono ?_
  rintro e w2 ⟨rfl, hb2w, hz2, hS2⟩
  rw [hbU] at hS2
  have S2 := Lib.hid hS2
  have B2 := Lib.hid hb2w
  have Z2 := Lib.hid hz2
  clear hb2w hz2 hS2
  have BW2 : Hid (Below w.heap.size w w2) := Lib.hid (by have h1 := B0.out.trans (B1.out.mono B0.out.size); exact h1.trans (B2.out.mono h1.size))
  have TX0 : Hid (TI w2 (fun j => j = w0.heap.size) w2 w0.heap.size b (fun _ => none) 0 (fun j => j = w0.heap.size)) := Lib.hid (TI.start (S1.out.below B2.out))
  have HX1 : Hid (w.heap.size ≤ w0.heap.size) := Lib.hid B0.out.size
  have HYX : Hid (w0.heap.size < w1.heap.size) := Lib.hid (by have := Z1.out; omega)
  have HYW : Hid (w1.heap.size < w2.heap.size) := Lib.hid (by have := Z2.out; omega)
  have V2 : Hid (w2.heap[w.heap.size]? = some (.cells #[.int .u64 (hi v), .int .u64 (lo v)] 29 (0, 0))) := Lib.hid (by
    have hl := heap_ltU V0.out
    have h1 := B1.out.block _ hl
    have h2 := B2.out.block w.heap.size (by have := B1.out.size; omega)
    exact (h2.trans h1).trans V0.out)
  go_wp2_with fail
  go_loopw [58, 12] (fun i s7 W => ∃ (k : Nat) (m : Pth → Option Int) (kq : List UOp) (A : Option Addr) (cap : Nat) (F : Nat → Prop), k ≤ m1 ∧ i = .int .i64 k ∧ s7 = .slice A kq.length cap ∧ TI w2 (fun j => j = w0.heap.size) W w0.heap.size b m k F ∧ KpU2 b m kq ∧ W.ownsRow w2.heap.size 59 6 (.slice A kq.length cap) kq.length (rowU kq) ∧ (∀ g, (Value.slice A kq.length cap).ownBlock = some g → ¬ F g) ∧ kq.length ≤ k ∧ (∀ q ∈ kq, q.ok)) (fun i _ _ => m1 - (intOf i).toNat)
  case atStart => exact ⟨0, _, [], none, 0, _, Nat.zero_le _, rfl, rfl, TX0.out, KpU2.nil b, World.ownsRow_nil _ _ _ _, fun g e => (by cases e), Nat.le_refl _, fun q h => (by cases h)⟩
  case round =>
    obtain ⟨k, m, kq, A, cap, F, hk, rfl, rfl, hT, hK, hO, hg, hl, hkq⟩ := hrel
    have HT := Lib.hid hT
    have HK := Lib.hid hK
    have HO := Lib.hid hO
    have HG := Lib.hid hg
    have HKQ := Lib.hid hkq
    clear hT hK hO hg hkq
    by_cases hlt : k < m1
    · have HB : Hid (Below w.heap.size w wr) := Lib.hid (BW2.out.trans (HT.out.fr.below BW2.out.size (fun j hj => by have := HX1.out; omega)))
      have hk1 : (k : Int) < (m1 : Int) := by omega
      have hk2 : (k : Int) < (c1 : Int) := by omega
      have hk0 : 0 ≤ (k : Int) := by omega
      obtain ⟨q, hq⟩ : ∃ q, qs1[k]? = some q := ⟨_, List.getElem?_eq_getElem (by rw [HN1.out]; omega)⟩
      have HQK := Lib.hid (HOK1.out q (List.mem_of_getElem? hq))
      obtain ⟨g, o, hA, hg2, hcell⟩ := (HR1.out.below HB.out).resolve_left (fun e => by rw [e] at hq; simp at hq)
      subst hA
      have hc := hcell k q hq
      have p0 : wr.cell? ⟨g, o + k * 6, none⟩ = some (.int .i64 q.kind) := hc 0 (by omega)
      have p1 : wr.cell? ⟨g, o + k * 6 + 1, none⟩ = some (.int .u8 q.raw) := hc 1 (by omega)
      have p2 : wr.cell? ⟨g, o + k * 6 + 2, none⟩ = some (.int .u64 (hi q.v)) := hc 2 (by omega)
      have p3 : wr.cell? ⟨g, o + k * 6 + 3, none⟩ = some (.int .u64 (lo q.v)) := hc 3 (by omega)
      have p4 : wr.cell? ⟨g, o + k * 6 + 4, none⟩ = some (.int .i64 q.n) := hc 4 (by omega)
      have p5 : wr.cell? ⟨g, o + k * 6 + 5, none⟩ = some (.int .i64 q.id) := hc 5 (by omega)
      clear hc hcell hq
      have X7 : Hid ((wr.alloc (.cells #[.int .i64 q.kind, .int .u8 q.raw, .int .u64 (hi q.v), .int .u64 (lo q.v), .int .i64 q.n, .int .i64 q.id] 59)).heap[wr.heap.size]? = some (.cells #[.int .i64 q.kind, .int .u8 q.raw, .int .u64 (hi q.v), .int .u64 (lo q.v), .int .i64 q.n, .int .i64 q.id] 59 (0, 0))) := Lib.hid (heap_alloc_new wr _)
      have C7 : Hid (Below wr.heap.size wr (wr.alloc (.cells #[.int .i64 q.kind, .int .u8 q.raw, .int .u64 (hi q.v), .int .u64 (lo q.v), .int .i64 q.n, .int .i64 q.id] 59))) := Lib.hid ((Below.refl _ wr).alloc (Nat.le_refl _) _)
      go_wp2_with fail
      refine (uo_prefix q HQK.out b hb1 hb8 _).mono ?_
      rintro e w8 ⟨rfl, h8⟩
      have X8 : Hid (w8.heap[wr.heap.size]? = some (.cells #[.int .i64 q.kind, .int .u8 q.raw, .int .u64 (hi q.v), .int .u64 (lo q.v), .int .i64 q.n, .int .i64 q.id] 59 (0, 0))) := Lib.hid ((h8.block _ (by simp)).trans X7.out)
      have C8 : Hid (Below wr.heap.size wr w8) := Lib.hid (C7.out.trans (h8.mono C7.out.size))
      have S8 : Hid (wr.heap.size < w8.heap.size) := Lib.hid (heap_ltU X8.out)
      have C9 : Hid (Below wr.heap.size wr (w8.alloc (.cells #[.int .u64 (hi (pfV q b)), .int .u64 (lo (pfV q b))] 29))) := Lib.hid (C8.out.alloc C8.out.size _)
      have X9 : Hid ((w8.alloc (.cells #[.int .u64 (hi (pfV q b)), .int .u64 (lo (pfV q b))] 29)).heap[wr.heap.size]? = some (.cells #[.int .i64 q.kind, .int .u8 q.raw, .int .u64 (hi q.v), .int .u64 (lo q.v), .int .i64 q.n, .int .i64 q.id] 59 (0, 0))) := Lib.hid ((Below.heap_alloc _ _ _ S8.out).trans X8.out)
      have x95 : (w8.alloc (.cells #[.int .u64 (hi (pfV q b)), .int .u64 (lo (pfV q b))] 29)).cell? ⟨wr.heap.size, 5, none⟩ = some (.int .i64 q.id) := blk_cell X9.out 5 _ rfl
      clear h8
      go_wp2_with fail
      clear x95
      obtain ⟨w9, hw9⟩ : ∃ x, x = w8.alloc (.cells #[.int .u64 (hi (pfV q b)), .int .u64 (lo (pfV q b))] 29) := ⟨_, rfl⟩
      rw [← hw9] at C9 X9 ⊢
      clear hw9
      have T9 := Lib.hid (HT.out.below C9.out)
      refine (s_put T9.out.s (by omega) hb8 (pfV q b) (pfV_128 q b HQK.out) (pfN q b) q.id).mono ?_
      rintro e w10 ⟨rfl, hL⟩
      obtain ⟨F', hT10, hF', hfr⟩ := T9.out.left hL
      have hnF : ∀ j, wr.heap.size ≤ j → ¬ F j := fun j hj h => by have := HT.out.s.lt j h; omega
      have T10 := Lib.hid hT10
      have FF := Lib.hid hF'
      have O10 := Lib.hid (own_frU (own_belowU HO.out C9.out) hfr HG.out)
      have X10 := Lib.hid ((hfr.block _ (heap_ltU X9.out) (hnF _ (Nat.le_refl _))).trans X9.out)
      have L9 : Hid (wr.heap.size ≤ w9.heap.size) := Lib.hid C9.out.size
      have HG2 : Hid (∀ g, (Value.slice A kq.length cap).ownBlock = some g → ¬ F' g) := Lib.hid fun g e h => by
        have h2 := (World.ownsRow.lt HO.out g e).2
        rcases FF.out g h with h3 | h3
        · exact HG.out g e h3
        · have := L9.out; omega
      clear hL hT10 hF' hfr
      rw [show putB m (keyU b (pfV q b) (pfN q b)) = putB m (opK q b) from rfl]
      cases hpb : putB m (opK q b) with
      | false =>
        have hm : putU m (keyU b (pfV q b) (pfN q b)) q.id = m := putU_no hpb q.id
        rw [hm] at T10
        go_wp2_with fail
        go_roundw
        case rel => exact ⟨k + 1, m, kq, A, cap, F', by omega, by simp, rfl, T10.out, HK.out, O10.out, HG2.out, by omega, HKQ.out⟩
        case measure => simp [intOf]; omega
      | true =>
        have HPB := Lib.hid hpb
        clear hpb
        have y0 := blk_cell X10.out 0 _ rfl; have y1 := blk_cell X10.out 1 _ rfl; have y2 := blk_cell X10.out 2 _ rfl; have y3 := blk_cell X10.out 3 _ rfl; have y4 := blk_cell X10.out 4 _ rfl; have y5 := blk_cell X10.out 5 _ rfl
        have N9 := Lib.hid (heap_alloc_new w10 (.cells #[.int .i64 q.kind, .int .u8 q.raw, .int .u64 (hi q.v), .int .u64 (lo q.v), .int .i64 q.n, .int .i64 q.id] 59))
        have S9 : Hid (w2.heap.size ≤ w10.heap.size) := Lib.hid T10.out.fr.size
        go_wp2_with (at_builtin; (refine wpList_append_own_at _ rfl (.tmp 74) (.tmp 76) 52 rfl w2.heap.size 59 i0 _ 6 48 Try.underlying52 HI0.out HZ0.out HY1.out HY2.out rfl (by decide) _ kq.length _ rfl (World.ownsRow.alloc O10.out _) ⟨w10.heap.size, 0, none⟩ 1 1 q.cells rfl rfl (World.news_of_block N9.out) (UOp.cells_one q) (by unfold maxLen; omega) (by omega) (by have := S9.out; simp; omega) ?_; intro v11 w11 hO11 hg11 hi11 hn11; clear hi11; obtain ⟨A11, c11, rfl⟩ := own_shapeU hO11; have O11 := Lib.hid hO11; have G11 := Lib.hid hg11; have N11 := Lib.hid hn11; clear hO11 hg11 hn11))
        go_roundw
        case rel =>
          have hln : (kq ++ [q]).length = kq.length + 1 := by simp
          have T11 := (T10.out.below ((Below.refl _ w10).alloc (Nat.le_refl _) (.cells #[.int .i64 q.kind, .int .u8 q.raw, .int .u64 (hi q.v), .int .u64 (lo q.v), .int .i64 q.n, .int .i64 q.id] 59))).grown G11.out (fun g e => ⟨(World.ownsRow.lt O10.out g e).1, HG2.out g e⟩)
          refine ⟨k + 1, putS b m q, kq ++ [q], A11, c11, F', by omega, by simp, by rw [hln], T11, HK.out.snoc q HPB.out, ?_, fun g e h => ?_, by rw [hln]; omega, fun q' hq' => ?_⟩
          · rw [hln, rowU_snoc]; exact O11.out
          · rw [hln] at e
            rcases N11.out with h5 | h5
            · rw [h5] at e; exact HG2.out g e h
            · rw [h5] at e
              injection e with e
              have h6 := T10.out.s.lt g h
              simp at e
              omega
          · rcases List.mem_append.1 hq' with h5 | h5
            · exact HKQ.out q' h5
            · simp at h5; rw [h5]; exact HQK.out
        case measure => simp [intOf]; omega
    · obtain rfl : m1 = k := by omega
      obtain ⟨wK, hwK⟩ : ∃ x, x = wr := ⟨_, rfl⟩
      subst hwK
      obtain ⟨mX, hmX⟩ : ∃ x, x = m := ⟨_, rfl⟩
      subst hmX
      obtain ⟨kX, hkX⟩ : ∃ x, x = kq := ⟨_, rfl⟩
      subst hkX
      obtain ⟨AK, hAK⟩ : ∃ x, x = A := ⟨_, rfl⟩
      subst hAK
      obtain ⟨cK, hcK⟩ : ∃ x, x = cap := ⟨_, rfl⟩
      subst hcK
      obtain ⟨FX, hFX⟩ : ∃ x, x = F := ⟨_, rfl⟩
      subst hFX
      have TX := HT
      have KX := HK
      have OX := HO
      have SX := HG
      have lX := hl
      have QX := HKQ
      have BK : Hid (Below w.heap.size w wK) := Lib.hid (BW2.out.trans (TX.out.fr.below BW2.out.size (fun j hj => by have := HX1.out; omega)))
      have TY0 : Hid (TI wK (fun j => j = w1.heap.size) wK w1.heap.size b (fun _ => none) 0 (fun j => j = w1.heap.size)) := Lib.hid (TI.start (S2.out.aside TX.out.fr.size (fun j hj => TX.out.fr.block j (by have := HYW.out; omega) (by have := HYX.out; omega))))
      have HX2 : Hid (w.heap.size ≤ w1.heap.size) := Lib.hid (by have := HX1.out; have := HYX.out; omega)
      have HYK : Hid (w1.heap.size < wK.heap.size) := Lib.hid (by have := HYW.out; have := TX.out.fr.size; omega)
      have FXD : Hid (∀ j, FX j → j < wK.heap.size ∧ j ≠ w1.heap.size) := Lib.hid fun j hj => ⟨TX.out.s.lt j hj, fun e => by
        have h1 := HYX.out
        have h2 := HYW.out
        rcases TX.out.sub j hj with h | h <;> omega⟩
      have OXD : Hid (∀ g, (Value.slice AK kX.length cK).ownBlock = some g → g < wK.heap.size ∧ g ≠ w1.heap.size) := Lib.hid fun g e => ⟨(World.ownsRow.lt OX.out g e).2, fun h => by have := (World.ownsRow.lt OX.out g e).1; have := HYW.out; omega⟩
      clear HT HK HO HG HKQ hl hlt
      go_wp2_with fail
      go_loopw [85, 17] (fun i s7 W => ∃ (k : Nat) (m : Pth → Option Int) (kq : List UOp) (A : Option Addr) (cap : Nat) (F : Nat → Prop), k ≤ m2 ∧ i = .int .i64 k ∧ s7 = .slice A kq.length cap ∧ TI wK (fun j => j = w1.heap.size) W w1.heap.size b m k F ∧ KpU2 b m kq ∧ W.ownsRow wK.heap.size 59 6 (.slice A kq.length cap) kq.length (rowU kq) ∧ (∀ g, (Value.slice A kq.length cap).ownBlock = some g → ¬ F g) ∧ kq.length ≤ k ∧ (∀ q ∈ kq, q.ok)) (fun i _ _ => m2 - (intOf i).toNat)
      case atStart => exact ⟨0, _, [], none, 0, _, Nat.zero_le _, rfl, rfl, TY0.out, KpU2.nil b, World.ownsRow_nil _ _ _ _, fun g e => (by cases e), Nat.le_refl _, fun q h => (by cases h)⟩
      case round =>
        obtain ⟨k, m, kq, A, cap, F, hk, rfl, rfl, hT, hK, hO, hg, hl, hkq⟩ := hrel
        have HT := Lib.hid hT
        have HK := Lib.hid hK
        have HO := Lib.hid hO
        have HG := Lib.hid hg
        have HKQ := Lib.hid hkq
        clear hT hK hO hg hkq
        by_cases hlt : k < m2
        · have HB : Hid (Below w.heap.size w wr) := Lib.hid (BK.out.trans (HT.out.fr.below BK.out.size (fun j hj => by have := HX2.out; omega)))
          have hk1 : (k : Int) < (m2 : Int) := by omega
          have hk2 : (k : Int) < (c2 : Int) := by omega
          have hk0 : 0 ≤ (k : Int) := by omega
          obtain ⟨q, hq⟩ : ∃ q, qs2[k]? = some q := ⟨_, List.getElem?_eq_getElem (by rw [HN2.out]; omega)⟩
          have HQK := Lib.hid (HOK2.out q (List.mem_of_getElem? hq))
          obtain ⟨g, o, hA, hg2, hcell⟩ := (HR2.out.below HB.out).resolve_left (fun e => by rw [e] at hq; simp at hq)
          subst hA
          have hc := hcell k q hq
          have p0 : wr.cell? ⟨g, o + k * 6, none⟩ = some (.int .i64 q.kind) := hc 0 (by omega)
          have p1 : wr.cell? ⟨g, o + k * 6 + 1, none⟩ = some (.int .u8 q.raw) := hc 1 (by omega)
          have p2 : wr.cell? ⟨g, o + k * 6 + 2, none⟩ = some (.int .u64 (hi q.v)) := hc 2 (by omega)
          have p3 : wr.cell? ⟨g, o + k * 6 + 3, none⟩ = some (.int .u64 (lo q.v)) := hc 3 (by omega)
          have p4 : wr.cell? ⟨g, o + k * 6 + 4, none⟩ = some (.int .i64 q.n) := hc 4 (by omega)
          have p5 : wr.cell? ⟨g, o + k * 6 + 5, none⟩ = some (.int .i64 q.id) := hc 5 (by omega)
          clear hc hcell hq
          have X7 : Hid ((wr.alloc (.cells #[.int .i64 q.kind, .int .u8 q.raw, .int .u64 (hi q.v), .int .u64 (lo q.v), .int .i64 q.n, .int .i64 q.id] 59)).heap[wr.heap.size]? = some (.cells #[.int .i64 q.kind, .int .u8 q.raw, .int .u64 (hi q.v), .int .u64 (lo q.v), .int .i64 q.n, .int .i64 q.id] 59 (0, 0))) := Lib.hid (heap_alloc_new wr _)
          have C7 : Hid (Below wr.heap.size wr (wr.alloc (.cells #[.int .i64 q.kind, .int .u8 q.raw, .int .u64 (hi q.v), .int .u64 (lo q.v), .int .i64 q.n, .int .i64 q.id] 59))) := Lib.hid ((Below.refl _ wr).alloc (Nat.le_refl _) _)
          go_wp2_with fail
          refine (uo_prefix q HQK.out b hb1 hb8 _).mono ?_
          rintro e w8 ⟨rfl, h8⟩
          have X8 : Hid (w8.heap[wr.heap.size]? = some (.cells #[.int .i64 q.kind, .int .u8 q.raw, .int .u64 (hi q.v), .int .u64 (lo q.v), .int .i64 q.n, .int .i64 q.id] 59 (0, 0))) := Lib.hid ((h8.block _ (by simp)).trans X7.out)
          have C8 : Hid (Below wr.heap.size wr w8) := Lib.hid (C7.out.trans (h8.mono C7.out.size))
          have S8 : Hid (wr.heap.size < w8.heap.size) := Lib.hid (heap_ltU X8.out)
          have C9 : Hid (Below wr.heap.size wr (w8.alloc (.cells #[.int .u64 (hi (pfV q b)), .int .u64 (lo (pfV q b))] 29))) := Lib.hid (C8.out.alloc C8.out.size _)
          have X9 : Hid ((w8.alloc (.cells #[.int .u64 (hi (pfV q b)), .int .u64 (lo (pfV q b))] 29)).heap[wr.heap.size]? = some (.cells #[.int .i64 q.kind, .int .u8 q.raw, .int .u64 (hi q.v), .int .u64 (lo q.v), .int .i64 q.n, .int .i64 q.id] 59 (0, 0))) := Lib.hid ((Below.heap_alloc _ _ _ S8.out).trans X8.out)
          have x95 : (w8.alloc (.cells #[.int .u64 (hi (pfV q b)), .int .u64 (lo (pfV q b))] 29)).cell? ⟨wr.heap.size, 5, none⟩ = some (.int .i64 q.id) := blk_cell X9.out 5 _ rfl
          clear h8
          go_wp2_with fail
          clear x95
          obtain ⟨w9, hw9⟩ : ∃ x, x = w8.alloc (.cells #[.int .u64 (hi (pfV q b)), .int .u64 (lo (pfV q b))] 29) := ⟨_, rfl⟩
          rw [← hw9] at C9 X9 ⊢
          clear hw9
          have T9 := Lib.hid (HT.out.below C9.out)
          refine (s_put T9.out.s (by omega) hb8 (pfV q b) (pfV_128 q b HQK.out) (pfN q b) q.id).mono ?_
          rintro e w10 ⟨rfl, hL⟩
          obtain ⟨F', hT10, hF', hfr⟩ := T9.out.left hL
          have hnF : ∀ j, wr.heap.size ≤ j → ¬ F j := fun j hj h => by have := HT.out.s.lt j h; omega
          have T10 := Lib.hid hT10
          have FF := Lib.hid hF'
          have O10 := Lib.hid (own_frU (own_belowU HO.out C9.out) hfr HG.out)
          have X10 := Lib.hid ((hfr.block _ (heap_ltU X9.out) (hnF _ (Nat.le_refl _))).trans X9.out)
          have L9 : Hid (wr.heap.size ≤ w9.heap.size) := Lib.hid C9.out.size
          have HG2 : Hid (∀ g, (Value.slice A kq.length cap).ownBlock = some g → ¬ F' g) := Lib.hid fun g e h => by
            have h2 := (World.ownsRow.lt HO.out g e).2
            rcases FF.out g h with h3 | h3
            · exact HG.out g e h3
            · have := L9.out; omega
          clear hL hT10 hF' hfr
          rw [show putB m (keyU b (pfV q b) (pfN q b)) = putB m (opK q b) from rfl]
          cases hpb : putB m (opK q b) with
          | false =>
            have hm : putU m (keyU b (pfV q b) (pfN q b)) q.id = m := putU_no hpb q.id
            rw [hm] at T10
            go_wp2_with fail
            go_roundw
            case rel => exact ⟨k + 1, m, kq, A, cap, F', by omega, by simp, rfl, T10.out, HK.out, O10.out, HG2.out, by omega, HKQ.out⟩
            case measure => simp [intOf]; omega
          | true =>
            have HPB := Lib.hid hpb
            clear hpb
            have y0 := blk_cell X10.out 0 _ rfl; have y1 := blk_cell X10.out 1 _ rfl; have y2 := blk_cell X10.out 2 _ rfl; have y3 := blk_cell X10.out 3 _ rfl; have y4 := blk_cell X10.out 4 _ rfl; have y5 := blk_cell X10.out 5 _ rfl
            have N9 := Lib.hid (heap_alloc_new w10 (.cells #[.int .i64 q.kind, .int .u8 q.raw, .int .u64 (hi q.v), .int .u64 (lo q.v), .int .i64 q.n, .int .i64 q.id] 59))
            have S9 : Hid (wK.heap.size ≤ w10.heap.size) := Lib.hid T10.out.fr.size
            go_wp2_with (at_builtin; (refine wpList_append_own_at _ rfl (.tmp 101) (.tmp 103) 52 rfl wK.heap.size 59 i0 _ 6 48 Try.underlying52 HI0.out HZ0.out HY1.out HY2.out rfl (by decide) _ kq.length _ rfl (World.ownsRow.alloc O10.out _) ⟨w10.heap.size, 0, none⟩ 1 1 q.cells rfl rfl (World.news_of_block N9.out) (UOp.cells_one q) (by unfold maxLen; omega) (by omega) (by have := S9.out; simp; omega) ?_; intro v11 w11 hO11 hg11 hi11 hn11; clear hi11; obtain ⟨A11, c11, rfl⟩ := own_shapeU hO11; have O11 := Lib.hid hO11; have G11 := Lib.hid hg11; have N11 := Lib.hid hn11; clear hO11 hg11 hn11))
            go_roundw
            case rel =>
              have hln : (kq ++ [q]).length = kq.length + 1 := by simp
              have T11 := (T10.out.below ((Below.refl _ w10).alloc (Nat.le_refl _) (.cells #[.int .i64 q.kind, .int .u8 q.raw, .int .u64 (hi q.v), .int .u64 (lo q.v), .int .i64 q.n, .int .i64 q.id] 59))).grown G11.out (fun g e => ⟨(World.ownsRow.lt O10.out g e).1, HG2.out g e⟩)
              refine ⟨k + 1, putS b m q, kq ++ [q], A11, c11, F', by omega, by simp, by rw [hln], T11, HK.out.snoc q HPB.out, ?_, fun g e h => ?_, by rw [hln]; omega, fun q' hq' => ?_⟩
              · rw [hln, rowU_snoc]; exact O11.out
              · rw [hln] at e
                rcases N11.out with h5 | h5
                · rw [h5] at e; exact HG2.out g e h
                · rw [h5] at e
                  injection e with e
                  have h6 := T10.out.s.lt g h
                  simp at e
                  omega
              · rcases List.mem_append.1 hq' with h5 | h5
                · exact HKQ.out q' h5
                · simp at h5; rw [h5]; exact HQK.out
            case measure => simp [intOf]; omega
        · obtain rfl : m2 = k := by omega
          obtain ⟨wL, hwL⟩ : ∃ x, x = wr := ⟨_, rfl⟩
          subst hwL
          obtain ⟨mY, hmY⟩ : ∃ x, x = m := ⟨_, rfl⟩
          subst hmY
          obtain ⟨kY, hkY⟩ : ∃ x, x = kq := ⟨_, rfl⟩
          subst hkY
          obtain ⟨AL, hAL⟩ : ∃ x, x = A := ⟨_, rfl⟩
          subst hAL
          obtain ⟨cL, hcL⟩ : ∃ x, x = cap := ⟨_, rfl⟩
          subst hcL
          obtain ⟨FY, hFY⟩ : ∃ x, x = F := ⟨_, rfl⟩
          subst hFY
          have TY := HT
          have KY := HK
          have lY := hl
          have QY := HKQ
          have FYD : Hid (∀ j, FY j → j = w1.heap.size ∨ wK.heap.size ≤ j) := Lib.hid TY.out.sub
          have BL : Hid (Below w.heap.size w wL) := Lib.hid (BK.out.trans (TY.out.fr.below BK.out.size (fun j hj => by have := HX2.out; omega)))
          have FYL : Hid (∀ j, FY j → w.heap.size ≤ j) := Lib.hid fun j hj => by
            have h1 := HX2.out
            have h2 := BK.out.size
            rcases FYD.out j hj with h | h <;> omega
          have HXS : Hid (∀ W, FrU FY wL W → TrieS W w0.heap.size b FX mX m1) := Lib.hid fun W hf => by
            refine TX.out.s.aside (Nat.le_trans TY.out.fr.size hf.size) fun j hj => ?_
            have h1 := FXD.out j hj
            have h2 := TY.out.fr.size
            refine (hf.block j (by omega) (fun h => ?_)).trans (TY.out.fr.block j h1.1 h1.2)
            have h3 := FYD.out j h
            omega
          have HRX : Hid (∀ W, FrU FY wL W → OpsU W AK kX) := Lib.hid fun W hf => by
            have h1 := own_frU OX.out TY.out.fr (fun g e h => (OXD.out g e).2 h)
            refine (opsU_own (own_frU h1 hf (fun g e h => ?_)) rfl).1
            have h3 := FYD.out g h
            have h4 := OXD.out g e
            omega
          have hcK : kX.length ≤ cK := (opsU_own OX.out rfl).2
          have HRY : Hid (∀ W, FrU FY wL W → OpsU W AL kY) := Lib.hid (fun W hf => (opsU_own (own_frU HO.out hf HG.out) rfl).1)
          have hcL : kY.length ≤ cL := (opsU_own HO.out rfl).2
          have TY1 : Hid (TI wL FY wL w1.heap.size b mY m2 FY) := Lib.hid (TI.start TY.out.s)
          have HFV : Hid (∀ W, FrU FY wL W → W.heap[w.heap.size]? = some (.cells #[.int .u64 (hi v), .int .u64 (lo v)] 29 (0, 0))) := Lib.hid fun W hf => by
            have h0 := heap_ltU V2.out
            have h00 := heap_ltU V0.out
            have h1 := TX.out.fr.block _ h0 (by omega)
            have h2 := TY.out.fr.block w.heap.size (by have := TX.out.fr.size; omega) (by have := HYX.out; omega)
            have h4 := TY.out.fr.size
            have h5 := TX.out.fr.size
            refine (hf.block _ (by omega) (fun h => ?_)).trans ((h2.trans h1).trans V2.out)
            have h3 := FYD.out _ h
            have h6 := HYX.out
            omega
          clear HT HK HO HG HKQ hl hlt
          go_wp2_with fail
          go_loopw [22] (fun i W => ∃ (j G : Nat) (m : Pth → Option Int) (F : Nat → Prop), j ≤ kX.length ∧ i = .int .i64 ((j : Int) - 1) ∧ TI wL FY W w1.heap.size b m G F ∧ m = putAll b mY (kX.drop j).reverse ∧ G + j ≤ 40) (fun i _ => (intOf i + 1).toNat)
          case atStart => exact ⟨kX.length, m2, mY, FY, Nat.le_refl _, rfl, TY1.out, by rw [List.drop_length]; rfl, by omega⟩
          case round =>
            obtain ⟨j, G, m, F, hj, rfl, hT, hm, hG⟩ := hrel
            have HT := Lib.hid hT
            have HM := Lib.hid hm
            clear hT hm
            rcases Nat.eq_zero_or_pos j with hj0 | hj0
            rotate_left
            · obtain ⟨j', rfl⟩ : ∃ j', j = j' + 1 := ⟨j - 1, by omega⟩
              have hjj : ((j' + 1 : Nat) : Int) - 1 = (j' : Int) := by omega
              rw [hjj]
              have hk1 : (j' : Int) < (kX.length : Int) := by omega
              have hk2 : (j' : Int) < (cK : Int) := by omega
              have hk0 : 0 ≤ (j' : Int) := by omega
              obtain ⟨q, hq⟩ : ∃ q, kX[j']? = some q := ⟨_, List.getElem?_eq_getElem (by omega)⟩
              have HQK := Lib.hid (QX.out q (List.mem_of_getElem? hq))
              have HD : Hid (kX.drop j' = q :: kX.drop (j' + 1)) := Lib.hid (by rw [List.drop_eq_getElem_cons (by omega)]; congr 1; exact (List.getElem?_eq_some_iff.1 hq).2)
              obtain ⟨g, o, hA, hg2, hcell⟩ := (HRX.out _ HT.out.fr).resolve_left (fun e => by rw [e] at hq; simp at hq)
              subst hA
              have hc := hcell j' q hq
              have p0 : wr.cell? ⟨g, o + j' * 6, none⟩ = some (.int .i64 q.kind) := hc 0 (by omega)
              have p1 : wr.cell? ⟨g, o + j' * 6 + 1, none⟩ = some (.int .u8 q.raw) := hc 1 (by omega)
              have p2 : wr.cell? ⟨g, o + j' * 6 + 2, none⟩ = some (.int .u64 (hi q.v)) := hc 2 (by omega)
              have p3 : wr.cell? ⟨g, o + j' * 6 + 3, none⟩ = some (.int .u64 (lo q.v)) := hc 3 (by omega)
              have p4 : wr.cell? ⟨g, o + j' * 6 + 4, none⟩ = some (.int .i64 q.n) := hc 4 (by omega)
              have p5 : wr.cell? ⟨g, o + j' * 6 + 5, none⟩ = some (.int .i64 q.id) := hc 5 (by omega)
              have HG2 := Lib.hid hg2
              clear hc hcell hq hjj
              go_wp2_with fail
              refine (uo_prefix q HQK.out b hb1 hb8 _).mono ?_
              rintro e w8 ⟨rfl, h8⟩
              have T8 := Lib.hid ((HT.out.below h8).below ((Below.refl _ w8).alloc (Nat.le_refl _) (.cells #[.int .u64 (hi (pfV q b)), .int .u64 (lo (pfV q b))] 29)))
              have x5 : (w8.alloc (.cells #[.int .u64 (hi (pfV q b)), .int .u64 (lo (pfV q b))] 29)).drew.cell? ⟨g, o + j' * 6 + 5, none⟩ = some (.int .i64 q.id) := (((h8.trans ((Below.refl _ w8).alloc (Nat.le_refl _) (.cells #[.int .u64 (hi (pfV q b)), .int .u64 (lo (pfV q b))] 29) |>.mono h8.size)).drew).cell (p := ⟨g, _, none⟩) HG2.out).trans p5
              clear h8
              go_wp2_with fail
              obtain ⟨w9, hw9⟩ : ∃ x, x = w8.alloc (.cells #[.int .u64 (hi (pfV q b)), .int .u64 (lo (pfV q b))] 29) := ⟨_, rfl⟩
              have z9 : w9.heap[w8.heap.size]? = some (.cells #[.int .u64 (hi (pfV q b)), .int .u64 (lo (pfV q b))] 29 (0, 0)) := by rw [hw9]; exact heap_alloc_new _ _
              have z0 : w9.drew.cell? ⟨w8.heap.size, 0, none⟩ = some (.int .u64 (hi (pfV q b))) := blk_cell (w := w9.drew) z9 0 _ rfl
              have z1 : w9.drew.cell? ⟨w8.heap.size, 1, none⟩ = some (.int .u64 (lo (pfV q b))) := blk_cell (w := w9.drew) z9 1 _ rfl
              rw [← hw9] at T8 x5 ⊢
              clear hw9 z9
              have T9 := Lib.hid (T8.out.below (Below.refl _ _).drew)
              go_region_with (go_at_call 23; (with_reducible refine (s_put T9.out.s (by omega) hb8 (pfV q b) (pfV_128 q b HQK.out) (pfN q b) q.id).mono ?_); rintro e w10 ⟨rfl, hL⟩; obtain ⟨F', hT10, -, -⟩ := T9.out.left hL; have T10 := Lib.hid hT10; clear hL hT10)
              all_goals go_wp2_with fail
              all_goals go_roundw
              all_goals first
                | (case rel => exact ⟨j', G + 1, _, F', by omega, by simp, T10.out, by rw [HD.out, HM.out]; simp [putAll, putS, opK], by omega⟩)
                | (case measure => simp [intOf]; done)
                | (case measure => simp [intOf]; omega)
            · subst hj0
              rw [show ((0 : Nat) : Int) - 1 = -1 from rfl]
              have T3 : Hid (TI wL FY wr w1.heap.size b (putAll b mY kX.reverse) G F) := Lib.hid (by have := HM.out; rw [List.drop_zero] at this; rw [← this]; exact HT.out)
              have hG3 : G ≤ 40 := by omega
              clear HT HM hG hj
              obtain ⟨m3, hm3⟩ : ∃ x, x = putAll b mY kX.reverse := ⟨_, rfl⟩
              have HM3 := Lib.hid hm3
              rw [← hm3] at T3
              clear hm3
              obtain ⟨w13, hw13⟩ : ∃ x, x = wr := ⟨_, rfl⟩
              subst hw13
              obtain ⟨G3, hG3⟩ : ∃ x, x = G := ⟨_, rfl⟩
              subst hG3
              obtain ⟨F3, hF3⟩ : ∃ x, x = F := ⟨_, rfl⟩
              subst hF3
              go_wp2_with fail
              go_loopw [133] (fun i W => ∃ (j G : Nat) (F : Nat → Prop), j ≤ kY.length ∧ i = .int .i64 (j : Int) ∧ TI wL FY W w1.heap.size b (remAll b (m3) (kY.take j)) G F ∧ G ≤ 40) (fun i _ => kY.length - (intOf i).toNat)
              case atStart => exact ⟨0, _, _, Nat.zero_le _, rfl, by rw [List.take_zero]; exact T3.out, by omega⟩
              case round =>
                obtain ⟨j, G, F, hj, rfl, hT, hG⟩ := hrel
                have HT := Lib.hid hT
                clear hT
                by_cases hlt : j < kY.length
                · have hk1 : (j : Int) < (kY.length : Int) := by omega
                  have hk2 : (j : Int) < (cL : Int) := by omega
                  have hk0 : 0 ≤ (j : Int) := by omega
                  obtain ⟨q, hq⟩ : ∃ q, kY[j]? = some q := ⟨_, List.getElem?_eq_getElem hlt⟩
                  have HQK := Lib.hid (QY.out q (List.mem_of_getElem? hq))
                  have HD : Hid (kY.take (j + 1) = kY.take j ++ [q]) := Lib.hid (by rw [List.take_add_one, hq]; rfl)
                  obtain ⟨g, o, hA, hg2, hcell⟩ := (HRY.out _ HT.out.fr).resolve_left (fun e => by rw [e] at hq; simp at hq)
                  subst hA
                  have hc := hcell j q hq
                  have p0 : wr.cell? ⟨g, o + j * 6, none⟩ = some (.int .i64 q.kind) := hc 0 (by omega)
                  have p1 : wr.cell? ⟨g, o + j * 6 + 1, none⟩ = some (.int .u8 q.raw) := hc 1 (by omega)
                  have p2 : wr.cell? ⟨g, o + j * 6 + 2, none⟩ = some (.int .u64 (hi q.v)) := hc 2 (by omega)
                  have p3 : wr.cell? ⟨g, o + j * 6 + 3, none⟩ = some (.int .u64 (lo q.v)) := hc 3 (by omega)
                  have p4 : wr.cell? ⟨g, o + j * 6 + 4, none⟩ = some (.int .i64 q.n) := hc 4 (by omega)
                  have p5 : wr.cell? ⟨g, o + j * 6 + 5, none⟩ = some (.int .i64 q.id) := hc 5 (by omega)
                  clear hc hcell hq
                  have X7 : Hid ((wr.alloc (.cells #[.int .i64 q.kind, .int .u8 q.raw, .int .u64 (hi q.v), .int .u64 (lo q.v), .int .i64 q.n, .int .i64 q.id] 59)).heap[wr.heap.size]? = some (.cells #[.int .i64 q.kind, .int .u8 q.raw, .int .u64 (hi q.v), .int .u64 (lo q.v), .int .i64 q.n, .int .i64 q.id] 59 (0, 0))) := Lib.hid (heap_alloc_new wr _)
                  have C7 : Hid (Below wr.heap.size wr (wr.alloc (.cells #[.int .i64 q.kind, .int .u8 q.raw, .int .u64 (hi q.v), .int .u64 (lo q.v), .int .i64 q.n, .int .i64 q.id] 59))) := Lib.hid ((Below.refl _ wr).alloc (Nat.le_refl _) _)
                  go_wp2_with fail
                  refine (uo_prefix q HQK.out b hb1 hb8 _).mono ?_
                  rintro e w8 ⟨rfl, h8⟩
                  have X8 : Hid (w8.heap[wr.heap.size]? = some (.cells #[.int .i64 q.kind, .int .u8 q.raw, .int .u64 (hi q.v), .int .u64 (lo q.v), .int .i64 q.n, .int .i64 q.id] 59 (0, 0))) := Lib.hid ((h8.block _ (by simp)).trans X7.out)
                  have C8 : Hid (Below wr.heap.size wr w8) := Lib.hid (C7.out.trans (h8.mono C7.out.size))
                  have S8 : Hid (wr.heap.size < w8.heap.size) := Lib.hid (heap_ltU X8.out)
                  have C9 : Hid (Below wr.heap.size wr (w8.alloc (.cells #[.int .u64 (hi (pfV q b)), .int .u64 (lo (pfV q b))] 29))) := Lib.hid (C8.out.alloc C8.out.size _)
                  have X9 : Hid ((w8.alloc (.cells #[.int .u64 (hi (pfV q b)), .int .u64 (lo (pfV q b))] 29)).heap[wr.heap.size]? = some (.cells #[.int .i64 q.kind, .int .u8 q.raw, .int .u64 (hi q.v), .int .u64 (lo q.v), .int .i64 q.n, .int .i64 q.id] 59 (0, 0))) := Lib.hid ((Below.heap_alloc _ _ _ S8.out).trans X8.out)
                  have x95 : (w8.alloc (.cells #[.int .u64 (hi (pfV q b)), .int .u64 (lo (pfV q b))] 29)).cell? ⟨wr.heap.size, 5, none⟩ = some (.int .i64 q.id) := blk_cell X9.out 5 _ rfl
                  clear h8
                  go_wp2_with fail
                  clear x95
                  obtain ⟨w9, hw9⟩ : ∃ x, x = w8.alloc (.cells #[.int .u64 (hi (pfV q b)), .int .u64 (lo (pfV q b))] 29) := ⟨_, rfl⟩
                  rw [← hw9] at C9 X9 ⊢
                  clear hw9
                  have T9 := Lib.hid (HT.out.below C9.out)
                  refine (s_rem T9.out.s (by omega) hb8 (pfV q b) (pfV_128 q b HQK.out) (pfN q b)).mono ?_
                  rintro e w10 ⟨rfl, hL⟩
                  obtain ⟨F', hT10, -, -⟩ := T9.out.left hL
                  have T10 := Lib.hid hT10
                  clear hL hT10
                  go_wp2_with fail
                  go_roundw
                  case rel => exact ⟨j + 1, G, F', by omega, by simp, by rw [HD.out]; simpa [remAll, putS, opK] using T10.out, by omega⟩
                  case measure => simp [intOf]; omega
                · obtain rfl : j = kY.length := by omega
                  rw [List.take_length] at HT
                  have T4 := HT
                  have hG4 : G ≤ 40 := hG
                  clear HT hG hj hlt
                  obtain ⟨m4, hm4⟩ : ∃ x, x = remAll b m3 kY := ⟨_, rfl⟩
                  have HM4 := Lib.hid hm4
                  rw [← hm4] at T4
                  clear hm4
                  obtain ⟨w14, hw14⟩ : ∃ x, x = wr := ⟨_, rfl⟩
                  subst hw14
                  obtain ⟨G4, hG4⟩ : ∃ x, x = G := ⟨_, rfl⟩
                  subst hG4
                  obtain ⟨F4, hF4⟩ : ∃ x, x = F := ⟨_, rfl⟩
                  subst hF4
                  go_wp2_with fail
                  go_loopw [150] (fun i W => ∃ (j G : Nat) (F : Nat → Prop), j ≤ kX.length ∧ i = .int .i64 (j : Int) ∧ TI wL FY W w1.heap.size b (putAll b (m4) (kX.take j)) G F ∧ G ≤ 40 + j) (fun i _ => kX.length - (intOf i).toNat)
                  case atStart => exact ⟨0, _, _, Nat.zero_le _, rfl, by rw [List.take_zero]; exact T4.out, by omega⟩
                  case round =>
                    obtain ⟨j, G, F, hj, rfl, hT, hG⟩ := hrel
                    have HT := Lib.hid hT
                    clear hT
                    by_cases hlt : j < kX.length
                    · have hk1 : (j : Int) < (kX.length : Int) := by omega
                      have hk2 : (j : Int) < (cK : Int) := by omega
                      have hk0 : 0 ≤ (j : Int) := by omega
                      obtain ⟨q, hq⟩ : ∃ q, kX[j]? = some q := ⟨_, List.getElem?_eq_getElem hlt⟩
                      have HQK := Lib.hid (QX.out q (List.mem_of_getElem? hq))
                      have HD : Hid (kX.take (j + 1) = kX.take j ++ [q]) := Lib.hid (by rw [List.take_add_one, hq]; rfl)
                      obtain ⟨g, o, hA, hg2, hcell⟩ := (HRX.out _ HT.out.fr).resolve_left (fun e => by rw [e] at hq; simp at hq)
                      subst hA
                      have hc := hcell j q hq
                      have p0 : wr.cell? ⟨g, o + j * 6, none⟩ = some (.int .i64 q.kind) := hc 0 (by omega)
                      have p1 : wr.cell? ⟨g, o + j * 6 + 1, none⟩ = some (.int .u8 q.raw) := hc 1 (by omega)
                      have p2 : wr.cell? ⟨g, o + j * 6 + 2, none⟩ = some (.int .u64 (hi q.v)) := hc 2 (by omega)
                      have p3 : wr.cell? ⟨g, o + j * 6 + 3, none⟩ = some (.int .u64 (lo q.v)) := hc 3 (by omega)
                      have p4 : wr.cell? ⟨g, o + j * 6 + 4, none⟩ = some (.int .i64 q.n) := hc 4 (by omega)
                      have p5 : wr.cell? ⟨g, o + j * 6 + 5, none⟩ = some (.int .i64 q.id) := hc 5 (by omega)
                      clear hc hcell hq
                      have X7 : Hid ((wr.alloc (.cells #[.int .i64 q.kind, .int .u8 q.raw, .int .u64 (hi q.v), .int .u64 (lo q.v), .int .i64 q.n, .int .i64 q.id] 59)).heap[wr.heap.size]? = some (.cells #[.int .i64 q.kind, .int .u8 q.raw, .int .u64 (hi q.v), .int .u64 (lo q.v), .int .i64 q.n, .int .i64 q.id] 59 (0, 0))) := Lib.hid (heap_alloc_new wr _)
                      have C7 : Hid (Below wr.heap.size wr (wr.alloc (.cells #[.int .i64 q.kind, .int .u8 q.raw, .int .u64 (hi q.v), .int .u64 (lo q.v), .int .i64 q.n, .int .i64 q.id] 59))) := Lib.hid ((Below.refl _ wr).alloc (Nat.le_refl _) _)
                      go_wp2_with fail
                      refine (uo_prefix q HQK.out b hb1 hb8 _).mono ?_
                      rintro e w8 ⟨rfl, h8⟩
                      have X8 : Hid (w8.heap[wr.heap.size]? = some (.cells #[.int .i64 q.kind, .int .u8 q.raw, .int .u64 (hi q.v), .int .u64 (lo q.v), .int .i64 q.n, .int .i64 q.id] 59 (0, 0))) := Lib.hid ((h8.block _ (by simp)).trans X7.out)
                      have C8 : Hid (Below wr.heap.size wr w8) := Lib.hid (C7.out.trans (h8.mono C7.out.size))
                      have S8 : Hid (wr.heap.size < w8.heap.size) := Lib.hid (heap_ltU X8.out)
                      have C9 : Hid (Below wr.heap.size wr (w8.alloc (.cells #[.int .u64 (hi (pfV q b)), .int .u64 (lo (pfV q b))] 29))) := Lib.hid (C8.out.alloc C8.out.size _)
                      have X9 : Hid ((w8.alloc (.cells #[.int .u64 (hi (pfV q b)), .int .u64 (lo (pfV q b))] 29)).heap[wr.heap.size]? = some (.cells #[.int .i64 q.kind, .int .u8 q.raw, .int .u64 (hi q.v), .int .u64 (lo q.v), .int .i64 q.n, .int .i64 q.id] 59 (0, 0))) := Lib.hid ((Below.heap_alloc _ _ _ S8.out).trans X8.out)
                      have x95 : (w8.alloc (.cells #[.int .u64 (hi (pfV q b)), .int .u64 (lo (pfV q b))] 29)).cell? ⟨wr.heap.size, 5, none⟩ = some (.int .i64 q.id) := blk_cell X9.out 5 _ rfl
                      clear h8
                      go_wp2_with fail
                      clear x95
                      obtain ⟨w9, hw9⟩ : ∃ x, x = w8.alloc (.cells #[.int .u64 (hi (pfV q b)), .int .u64 (lo (pfV q b))] 29) := ⟨_, rfl⟩
                      rw [← hw9] at C9 X9 ⊢
                      clear hw9
                      have T9 := Lib.hid (HT.out.below C9.out)
                      refine (s_put T9.out.s (by omega) hb8 (pfV q b) (pfV_128 q b HQK.out) (pfN q b) q.id).mono ?_
                      rintro e w10 ⟨rfl, hL⟩
                      obtain ⟨F', hT10, -, -⟩ := T9.out.left hL
                      have T10 := Lib.hid hT10
                      clear hL hT10
                      go_wp2_with fail
                      go_roundw
                      case rel => exact ⟨j + 1, G + 1, F', by omega, by simp, by rw [HD.out]; simpa [putAll, putS, opK] using T10.out, by omega⟩
                      case measure => simp [intOf]; omega
                    · obtain rfl : j = kX.length := by omega
                      rw [List.take_length] at HT
                      have T5 : Hid (TI wL FY wr w1.heap.size b mX G F) := Lib.hid (by have h := order_sameU KX.out KY.out; rw [← HM3.out, ← HM4.out] at h; rw [← h]; exact HT.out)
                      have hG5 : G ≤ 100 := by omega
                      clear HT hG hj hlt
                      obtain ⟨w15, hw15⟩ : ∃ x, x = wr := ⟨_, rfl⟩
                      subst hw15
                      obtain ⟨G5, hG5⟩ : ∃ x, x = G := ⟨_, rfl⟩
                      subst hG5
                      obtain ⟨F5, hF5⟩ : ∃ x, x = F := ⟨_, rfl⟩
                      subst hF5
                      go_wp2_with fail
                      go_loopw [169] (fun i W => ∃ (j : Nat), j ≤ kX.length ∧ i = .int .i64 (j : Int) ∧ TI wL FY W w1.heap.size b mX G5 F5) (fun i _ => kX.length - (intOf i).toNat)
                      case atStart => exact ⟨0, Nat.zero_le _, rfl, T5.out⟩
                      case round =>
                        obtain ⟨j, hj, rfl, hT⟩ := hrel
                        have HT := Lib.hid hT
                        clear hT
                        by_cases hlt : j < kX.length
                        · have hk1 : (j : Int) < (kX.length : Int) := by omega
                          have hk2 : (j : Int) < (cK : Int) := by omega
                          have hk0 : 0 ≤ (j : Int) := by omega
                          obtain ⟨q, hq⟩ : ∃ q, kX[j]? = some q := ⟨_, List.getElem?_eq_getElem hlt⟩
                          have HQK := Lib.hid (QX.out q (List.mem_of_getElem? hq))
                          obtain ⟨pq, hp1, hp2⟩ := KX.out.each q (List.mem_of_getElem? hq)
                          have hget : getU mX (keyU b (pfV q b) (pfN q b)) = (q.id, true) := by rw [show keyU b (pfV q b) (pfN q b) = some pq from hp1]; simp [getU, hp2]
                          have HGET := Lib.hid hget
                          obtain ⟨g, o, hA, hg2, hcell⟩ := (HRX.out _ HT.out.fr).resolve_left (fun e => by rw [e] at hq; simp at hq)
                          subst hA
                          have hc := hcell j q hq
                          have p0 : wr.cell? ⟨g, o + j * 6, none⟩ = some (.int .i64 q.kind) := hc 0 (by omega)
                          have p1 : wr.cell? ⟨g, o + j * 6 + 1, none⟩ = some (.int .u8 q.raw) := hc 1 (by omega)
                          have p2 : wr.cell? ⟨g, o + j * 6 + 2, none⟩ = some (.int .u64 (hi q.v)) := hc 2 (by omega)
                          have p3 : wr.cell? ⟨g, o + j * 6 + 3, none⟩ = some (.int .u64 (lo q.v)) := hc 3 (by omega)
                          have p4 : wr.cell? ⟨g, o + j * 6 + 4, none⟩ = some (.int .i64 q.n) := hc 4 (by omega)
                          have p5 : wr.cell? ⟨g, o + j * 6 + 5, none⟩ = some (.int .i64 q.id) := hc 5 (by omega)
                          clear hc hcell hq hget hp1 hp2
                          have X7 : Hid ((wr.alloc (.cells #[.int .i64 q.kind, .int .u8 q.raw, .int .u64 (hi q.v), .int .u64 (lo q.v), .int .i64 q.n, .int .i64 q.id] 59)).heap[wr.heap.size]? = some (.cells #[.int .i64 q.kind, .int .u8 q.raw, .int .u64 (hi q.v), .int .u64 (lo q.v), .int .i64 q.n, .int .i64 q.id] 59 (0, 0))) := Lib.hid (heap_alloc_new wr _)
                          have C7 : Hid (Below wr.heap.size wr (wr.alloc (.cells #[.int .i64 q.kind, .int .u8 q.raw, .int .u64 (hi q.v), .int .u64 (lo q.v), .int .i64 q.n, .int .i64 q.id] 59))) := Lib.hid ((Below.refl _ wr).alloc (Nat.le_refl _) _)
                          go_wp2_with fail
                          refine (uo_prefix q HQK.out b hb1 hb8 _).mono ?_
                          rintro e w8 ⟨rfl, h8⟩
                          have X8 : Hid (w8.heap[wr.heap.size]? = some (.cells #[.int .i64 q.kind, .int .u8 q.raw, .int .u64 (hi q.v), .int .u64 (lo q.v), .int .i64 q.n, .int .i64 q.id] 59 (0, 0))) := Lib.hid ((h8.block _ (by simp)).trans X7.out)
                          have C8 : Hid (Below wr.heap.size wr w8) := Lib.hid (C7.out.trans (h8.mono C7.out.size))
                          have S8 : Hid (wr.heap.size < w8.heap.size) := Lib.hid (heap_ltU X8.out)
                          have C9 : Hid (Below wr.heap.size wr (w8.alloc (.cells #[.int .u64 (hi (pfV q b)), .int .u64 (lo (pfV q b))] 29))) := Lib.hid (C8.out.alloc C8.out.size _)
                          have X9 : Hid ((w8.alloc (.cells #[.int .u64 (hi (pfV q b)), .int .u64 (lo (pfV q b))] 29)).heap[wr.heap.size]? = some (.cells #[.int .i64 q.kind, .int .u8 q.raw, .int .u64 (hi q.v), .int .u64 (lo q.v), .int .i64 q.n, .int .i64 q.id] 59 (0, 0))) := Lib.hid ((Below.heap_alloc _ _ _ S8.out).trans X8.out)
                          have x95 : (w8.alloc (.cells #[.int .u64 (hi (pfV q b)), .int .u64 (lo (pfV q b))] 29)).cell? ⟨wr.heap.size, 5, none⟩ = some (.int .i64 q.id) := blk_cell X9.out 5 _ rfl
                          clear h8
                          go_wp2_with fail
                          clear x95
                          obtain ⟨w9, hw9⟩ : ∃ x, x = w8.alloc (.cells #[.int .u64 (hi (pfV q b)), .int .u64 (lo (pfV q b))] 29) := ⟨_, rfl⟩
                          rw [← hw9] at C9 X9 ⊢
                          clear hw9
                          have T9 := Lib.hid (HT.out.below C9.out)
                          have hgt := s_get T9.out.s hb8 (pfV q b) (pfV_128 q b HQK.out) (pfN q b)
                          rw [HGET.out] at hgt
                          refine hgt.mono ?_
                          rintro e w10 ⟨rfl, h10⟩
                          have T10 := Lib.hid (T9.out.below h10)
                          have x5 : w10.cell? ⟨wr.heap.size, 5, none⟩ = some (.int .i64 q.id) := blk_cell ((h10.block _ (heap_ltU X9.out)).trans X9.out) 5 _ rfl
                          clear h10 hgt
                          go_wp2_with fail
                          go_roundw
                          case rel => exact ⟨j + 1, by omega, by simp, T10.out⟩
                          case measure => simp [intOf]; omega
                        · obtain rfl : j = kX.length := by omega
                          obtain ⟨w16, hw16⟩ : ∃ x, x = wr := ⟨_, rfl⟩
                          subst hw16
                          have XS := Lib.hid (HXS.out _ HT.out.fr)
                          have hv16 := HFV.out _ HT.out.fr
                          have v0 := blk_cell hv16 0 _ rfl
                          have v1 := blk_cell hv16 1 _ rfl
                          have hlx := s_lng XS.out hb8 v hv
                          have B16 : Hid (Below w.heap.size w w16) := Lib.hid (BL.out.trans (HT.out.fr.below BL.out.size FYL.out))
                          have HV16 := Lib.hid hv16
                          obtain ⟨L, hL⟩ : ∃ x, x = lngM mX b v := ⟨_, rfl⟩
                          have HLL := Lib.hid hL.symm
                          rw [← hL] at hlx
                          clear hL
                          clear hv16
                          go_wp2_with fail
                          refine hlx.mono ?_
                          rintro e w17 ⟨rfl, h17⟩
                          clear hlx
                          have XS17 := Lib.hid (XS.out.below h17)
                          have T17 := Lib.hid (HT.out.below h17)
                          have B17 : Hid (Below w.heap.size w w17) := Lib.hid (B16.out.trans (h17.mono B16.out.size))
                          have v17 := (h17.block _ (heap_ltU HV16.out)).trans HV16.out
                          have z0 := blk_cell v17 0 _ rfl
                          have z1 := blk_cell v17 1 _ rfl
                          have hly := s_lng T17.out.s hb8 v hv
                          rw [HLL.out] at hly
                          clear v0 v1 v17 h17
                          go_wp2_with fail
                          refine hly.mono ?_
                          rintro e w18 ⟨rfl, h18⟩
                          clear hly z0 z1
                          have XS18 := Lib.hid (XS17.out.below h18)
                          have YS18 := Lib.hid (T17.out.below h18).s
                          have B18 : Hid (Below w.heap.size w w18) := Lib.hid (B17.out.trans (h18.mono B17.out.size))
                          clear h18
                          obtain ⟨kl, hkl, -, hcl⟩ := s_len XS18.out
                          obtain ⟨kl2, hkl2, -, hcl2⟩ := s_len YS18.out
                          obtain rfl := hkl2.uniq hkl
                          obtain ⟨kn, hkn, hcn⟩ := s_nodes XS18.out
                          obtain ⟨kn2, hkn2, hcn2⟩ := s_nodes YS18.out
                          obtain rfl := hkn2.uniq hkn
                          clear hkl hkl2 hkn hkn2
                          have HCL := Lib.hid hcl
                          have HCL2 := Lib.hid hcl2
                          have HCN := Lib.hid hcn
                          have HCN2 := Lib.hid hcn2
                          clear hcl hcl2 hcn hcn2
                          go_wp2_with fail
                          refine HCL.out.mono ?_
                          rintro e w19 ⟨rfl, rfl⟩
                          go_wp2_with fail
                          refine HCL2.out.mono ?_
                          rintro e w19 ⟨rfl, rfl⟩
                          go_wp2_with fail
                          refine HCN.out.mono ?_
                          rintro e w19 ⟨rfl, rfl⟩
                          go_wp2_with fail
                          refine HCN2.out.mono ?_
                          rintro e w19 ⟨rfl, rfl⟩
                          go_wp2_with fail
                          refine (ub_begun _).mono ?_
                          rintro e w20 ⟨rfl, h20⟩
                          have B20 := Lib.hid (B18.out.trans (h20.mono B18.out.size))
                          clear h20
                          go_wp2_with fail
                          go_ret
                          exact ⟨rfl, B20.out⟩
end Go.Proofs.Ytkennilcojbbgaa
