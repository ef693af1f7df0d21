/- Layer 11: the walk of ExactOrder. -/
import Derived.Test.YtjdecoiciecfpaaQOrdP
import Derived.Test.YtjdecoiciecfpaaQEq
namespace Go.Proofs.Ytjdecoiciecfpaa
open Go.RowKit Go.Maps Go.Sort
set_option maxRecDepth 100000 in
set_option maxHeartbeats 4000000 in
theorem order_any (w : World) (A1 : Option Addr) (n1 c1 : Nat) (qs1 : List QOp) (hn1 : qs1.length = n1) (hc1 : n1 ≤ c1) (hm1 : c1 ≤ 9223372036854775807) (hok1 : ∀ q ∈ qs1, q.ok) (hr1 : OpsR w A1 qs1)
    (A2 : Option Addr) (n2 c2 : Nat) (qs2 : List QOp) (hn2 : qs2.length = n2) (hc2 : n2 ≤ c2) (hm2 : c2 ≤ 9223372036854775807) (hok2 : ∀ q ∈ qs2, q.ok) (hr2 : OpsR w A2 qs2) :
    Calls Try.prog 6 #[.slice A1 n1 c1, .slice A2 n2 c2] w (RetX (.bool true) w) := by
  have HN1 := Lib.hid hn1
  have HOK1 := Lib.hid hok1
  have HR1 := Lib.hid hr1
  have HN2 := Lib.hid hn2
  have HOK2 := Lib.hid hok2
  have HR2 := Lib.hid hr2
  obtain ⟨i0, hi0, hz0, hy1, hy2⟩ := info_partsQ info_opQ
  have HI0 := Lib.hid hi0
  have HZ0 := Lib.hid hz0
  have HY1 := Lib.hid hy1
  have HY2 := Lib.hid hy2
  obtain ⟨m1, hmm1⟩ : ∃ m1 : Nat, m1 = min n1 20 := ⟨_, rfl⟩
  obtain ⟨m2, hmm2⟩ : ∃ m2 : Nat, m2 = min n2 20 := ⟨_, rfl⟩
  have hmin1 : min (n1 : Int) 20 = (m1 : Int) := by omega
  have hmin2 : min (n2 : Int) 20 = (m2 : Int) := by omega
  have hm1n : m1 ≤ n1 := by omega
  have hm2n : m2 ≤ n2 := by omega
  have hm120 : m1 ≤ 20 := by omega
  have hm220 : m2 ≤ 20 := by omega
  clear hn1 hok1 hr1 hn2 hok2 hr2 hi0 hz0 hy1 hy2 hmm1 hmm2
  go_enter Try.func6, Try.ntmps6
  go_wp2_with fail
  go_quiet (fail)
  go_wp2_with fail
  refine (qx_New _).mono ?_
  rintro e w1 ⟨rfl, hb1, hI1⟩
  have I1 := Lib.hid (hI1 fun _ => 0)
  have B1 : Hid (Below w.heap.size w w1) := Lib.hid ⟨hb1.os, hb1.tape, hb1.output, hb1.size, hb1.block⟩
  clear hb1 hI1
  go_wp2_with fail
  refine (qx_New _).mono ?_
  rintro e w2 ⟨rfl, hb2, hI2⟩
  have I2 := Lib.hid (hI2 fun _ => 0)
  have B2 : Hid (Below w.heap.size w w2) := Lib.hid (B1.out.trans (hb2.mono B1.out.size))
  have J2 : Hid (JH w2 w2 w.heap.size none 0 ([], fun _ => 0)) := Lib.hid ⟨I1.out.below hb2, fun b e => (by cases e), FrX.refl _ _⟩
  have HX1 : Hid (w.heap.size ≤ w.heap.size) := Lib.hid (Nat.le_refl _)
  have HXW1 : Hid (w.heap.size < w2.heap.size) := Lib.hid (by have h1 : w.heap.size < w1.heap.size := I1.out.lt; have := hb2.size; omega)
  have HYX : Hid (w.heap.size < w1.heap.size) := Lib.hid I1.out.lt
  have HYW : Hid (w1.heap.size < w2.heap.size) := Lib.hid I2.out.lt
  clear hb2 hI2
  go_wp2_with fail
  go_loopw [33, 7] (fun i s7 W => ∃ (k : Nat) (m : Option Nat) (s : List Pt × (Pt → Int)) (kq : List QOp) (A : Option Addr) (cap : Nat), k ≤ m1 ∧ i = .int .i64 k ∧ s7 = .slice A kq.length cap ∧ JH w2 W (w.heap.size) m k s ∧ Kp s kq ∧ W.ownsRow w2.heap.size 73 11 (.slice A kq.length cap) kq.length (rowO kq) ∧ (∀ g, (Value.slice A kq.length cap).ownBlock = some g → m ≠ some g) ∧ kq.length ≤ k ∧ (∀ q ∈ kq, q.ok)) (fun i _ _ => m1 - (intOf i).toNat)
  case atStart => exact ⟨0, none, ([], fun _ => 0), [], none, 0, Nat.zero_le _, rfl, rfl, J2.out, Kp.nil _, World.ownsRow_nil _ _ _ _, fun g e => (by cases e), Nat.le_refl _, fun q h => (by cases h)⟩
  case round =>
    obtain ⟨k, m, s, kq, A, cap, hk, rfl, rfl, hJ, hK, hO, hg, hl, hkq⟩ := hrel
    have HJ := Lib.hid hJ
    have HK := Lib.hid hK
    have HO := Lib.hid hO
    have HG := Lib.hid hg
    have HKQ := Lib.hid hkq
    clear hJ hK hO hg hkq
    by_cases hlt : k < m1
    · have HB : Hid (Below w.heap.size w wr) := Lib.hid (B2.out.trans (HJ.out.f.below B2.out.size HX1.out))
      have hk1 : (k : Int) < (m1 : Int) := by omega
      have hk2 : (k : Int) < (c1 : Int) := by omega
      have hk0 : 0 ≤ (k : Int) := by omega
      obtain ⟨q, hq⟩ : ∃ q, qs1[k]? = some q := ⟨_, List.getElem?_eq_getElem (by rw [HN1.out]; omega)⟩
      have HQK := Lib.hid (HOK1.out q (List.mem_of_getElem? hq))
      have HQ2 := Lib.hid HQK.out.2.1
      have HQ3 := Lib.hid HQK.out.2.2
      obtain ⟨g, o, hA, hg2, hcell⟩ := (HR1.out.below HB.out).resolve_left (fun e => by rw [e] at hq; simp at hq)
      subst hA
      have hc := hcell k q hq
      have p0 : wr.cell? ⟨g, o + k * 11, none⟩ = some (.int .i64 q.kind) := hc 0 (by omega)
      have p1 : wr.cell? ⟨g, o + k * 11 + 1, none⟩ = some (.int .u8 q.like) := hc 1 (by omega)
      have p2 : wr.cell? ⟨g, o + k * 11 + 2, none⟩ = some (.int .u64 (hi q.p.a)) := hc 2 (by omega)
      have p3 : wr.cell? ⟨g, o + k * 11 + 3, none⟩ = some (.int .u64 (lo q.p.a)) := hc 3 (by omega)
      have p4 : wr.cell? ⟨g, o + k * 11 + 4, none⟩ = some (.int .u64 (hi q.p.b)) := hc 4 (by omega)
      have p5 : wr.cell? ⟨g, o + k * 11 + 5, none⟩ = some (.int .u64 (lo q.p.b)) := hc 5 (by omega)
      have p6 : wr.cell? ⟨g, o + k * 11 + 6, none⟩ = some (.int .u64 (hi q.p.c)) := hc 6 (by omega)
      have p7 : wr.cell? ⟨g, o + k * 11 + 7, none⟩ = some (.int .u64 (lo q.p.c)) := hc 7 (by omega)
      have p8 : wr.cell? ⟨g, o + k * 11 + 8, none⟩ = some (.int .u64 (hi q.p.d)) := hc 8 (by omega)
      have p9 : wr.cell? ⟨g, o + k * 11 + 9, none⟩ = some (.int .u64 (lo q.p.d)) := hc 9 (by omega)
      have p10 : wr.cell? ⟨g, o + k * 11 + 10, none⟩ = some (.int .i64 q.id) := hc 10 (by omega)
      clear hc hcell hq
      have X7 : Hid ((wr.alloc (.cells #[.int .i64 q.kind, .int .u8 q.like, .int .u64 (hi q.p.a), .int .u64 (lo q.p.a), .int .u64 (hi q.p.b), .int .u64 (lo q.p.b), .int .u64 (hi q.p.c), .int .u64 (lo q.p.c), .int .u64 (hi q.p.d), .int .u64 (lo q.p.d), .int .i64 q.id] 73)).drew.heap[wr.heap.size]? = some (.cells #[.int .i64 q.kind, .int .u8 q.like, .int .u64 (hi q.p.a), .int .u64 (lo q.p.a), .int .u64 (hi q.p.b), .int .u64 (lo q.p.b), .int .u64 (hi q.p.c), .int .u64 (lo q.p.c), .int .u64 (hi q.p.d), .int .u64 (lo q.p.d), .int .i64 q.id] 73 (0, 0))) := Lib.hid (heap_alloc_new wr _)
      have C7 : Hid (Below wr.heap.size wr (wr.alloc (.cells #[.int .i64 q.kind, .int .u8 q.like, .int .u64 (hi q.p.a), .int .u64 (lo q.p.a), .int .u64 (hi q.p.b), .int .u64 (lo q.p.b), .int .u64 (hi q.p.c), .int .u64 (lo q.p.c), .int .u64 (hi q.p.d), .int .u64 (lo q.p.d), .int .i64 q.id] 73)).drew) := Lib.hid ((Below.refl _ wr).alloc (Nat.le_refl _) _).drew
      have J7 := Lib.hid (HJ.out.below C7.out)
      by_cases hp : opPt q.like q.p ∈ s.1
      · have HP := Lib.hid hp
        clear hp
        go_wp2_with fail
        go_region_with (first
          | (go_at_call 30; refine (qo_point q.kind q.id q.like HQ2.out q.p _).mono ?_; rintro e w8 ⟨rfl, hb8⟩; have X8 := (hb8.block _ (by simp)).trans X7.out; have x8 := blk_cellQ X8 10 _ rfl; have J8 := Lib.hid (J7.out.below hb8); have C8 := Lib.hid (C7.out.trans (hb8.mono C7.out.size)); clear hb8 X8)
          | (go_at_call 31; refine (putJ_old J8.out (by omega) _ _ HQ3.out HP.out).mono ?_; rintro e w9 ⟨rfl, hJ9, hb9⟩; have J9 := Lib.hid hJ9; have C9 := Lib.hid (C8.out.trans (hb9.mono C8.out.size)); clear hJ9 hb9))
        all_goals go_wp2_with fail
        all_goals go_roundw
        all_goals first
          | (case rel => exact ⟨k + 1, m, s, kq, A, cap, by omega, by simp, rfl, J9.out, HK.out, own_below HO.out C9.out, HG.out, by omega, HKQ.out⟩)
          | (case measure => simp [intOf]; omega)
      · have HP := Lib.hid hp
        clear hp
        have HXR : Hid (wr.heap.size ≠ w.heap.size) := Lib.hid (by have := HXW1.out; have := HJ.out.f.size; omega)
        have HMR : Hid (m ≠ some wr.heap.size) := Lib.hid (fun e => by have := (HJ.out.i.yes _ e).2.lt; omega)
        go_wp2_with fail
        go_region_with (first
          | (go_at_call 30; refine (qo_point q.kind q.id q.like HQ2.out q.p _).mono ?_; rintro e w8 ⟨rfl, hb8⟩; have X8 := Lib.hid ((hb8.block _ (by simp)).trans X7.out); have x8 := blk_cellQ X8.out 10 _ rfl; have J8 := Lib.hid (J7.out.below hb8); have C8 := Lib.hid (C7.out.trans (hb8.mono C7.out.size)); have L8 : Hid (wr.heap.size < w8.heap.size) := Lib.hid (by have := hb8.size; simp at this; omega); clear hb8)
          | (go_at_call 31; refine (putJ_new J8.out (by omega) _ _ HQ3.out HP.out).mono ?_; rintro e w9 ⟨rfl, m', hm', hJ9, hT9⟩; have J9 := Lib.hid hJ9; have M9 := Lib.hid hm'; have T9 := Lib.hid hT9; have X9 := (hT9.keep hm' L8.out HXR.out HMR.out).trans X8.out; have y0 := blk_cellQ X9 0 _ rfl; have y1 := blk_cellQ X9 1 _ rfl; have y2 := blk_cellQ X9 2 _ rfl; have y3 := blk_cellQ X9 3 _ rfl; have y4 := blk_cellQ X9 4 _ rfl; have y5 := blk_cellQ X9 5 _ rfl; have y6 := blk_cellQ X9 6 _ rfl; have y7 := blk_cellQ X9 7 _ rfl; have y8 := blk_cellQ X9 8 _ rfl; have y9 := blk_cellQ X9 9 _ rfl; have y10 := blk_cellQ X9 10 _ rfl; have O8 := own_below HO.out C8.out; have O9 := Lib.hid (own_turn O8 hT9 hm' HXW1.out HG.out); clear hJ9 hm' hT9 X9 O8))
        all_goals
          have N9 := Lib.hid (heap_alloc_new w9 (.cells #[.int .i64 q.kind, .int .u8 q.like, .int .u64 (hi q.p.a), .int .u64 (lo q.p.a), .int .u64 (hi q.p.b), .int .u64 (lo q.p.b), .int .u64 (hi q.p.c), .int .u64 (lo q.p.c), .int .u64 (hi q.p.d), .int .u64 (lo q.p.d), .int .i64 q.id] 73))
          have S9 : Hid (w2.heap.size ≤ w9.heap.size) := Lib.hid J9.out.f.size
          go_wp2_with (at_builtin; (refine wpList_append_own_at _ rfl (.tmp 43) (.tmp 45) 65 rfl w2.heap.size 73 i0 _ 11 88 Try.underlying65 HI0.out HZ0.out HY1.out HY2.out rfl (by decide) _ kq.length _ rfl (World.ownsRow.alloc O9.out _) ⟨w9.heap.size, 0, none⟩ 1 1 q.cells rfl rfl (World.news_of_block N9.out) (QOp.cells_one q) (by unfold maxLen; omega) (by omega) (by have := S9.out; simp; omega) ?_; intro v10 w10 hO10 hg10 hi10 hn10; clear hi10; obtain ⟨A10, c10, rfl⟩ := own_shapeQ hO10; have O10 := Lib.hid hO10; have G10 := Lib.hid hg10; have N10 := Lib.hid hn10; clear hO10 hg10 hn10))
          go_roundw
          case rel =>
            have hln : (kq ++ [q]).length = kq.length + 1 := by simp
            have hold : ∀ g, (Value.slice A kq.length cap).ownBlock = some g → w2.heap.size ≤ g ∧ m' ≠ some g := fun g e => ⟨(World.ownsRow.lt O9.out g e).1, keep_ne M9.out (Nat.lt_of_lt_of_le (World.ownsRow.lt HO.out g e).2 C8.out.size) (HG.out g e)⟩
            have J10 := (J9.out.below ((Below.refl _ w9).alloc (Nat.le_refl _) (.cells #[.int .i64 q.kind, .int .u8 q.like, .int .u64 (hi q.p.a), .int .u64 (lo q.p.a), .int .u64 (hi q.p.b), .int .u64 (lo q.p.b), .int .u64 (hi q.p.c), .int .u64 (lo q.p.c), .int .u64 (hi q.p.d), .int .u64 (lo q.p.d), .int .i64 q.id] 73))).grown G10.out HXW1.out hold
            refine ⟨k + 1, m', stepP s q.pt q.id, kq ++ [q], A10, c10, by omega, by simp, by rw [hln], J10, HK.out.snoc q HP.out, ?_, fun g e => ?_, by rw [hln]; omega, fun q' hq' => ?_⟩
            · rw [hln, rowO_snoc]; exact O10.out
            · rw [hln] at e
              rcases N10.out with h5 | h5
              · rw [h5] at e; exact (hold g e).2
              · rw [h5] at e
                injection e with e
                intro e2
                have h6 := (J9.out.i.yes g e2).2.lt
                simp at e
                omega
            · rcases List.mem_append.1 hq' with h5 | h5
              · exact HKQ.out q' h5
              · simp at h5; rw [h5]; exact HQK.out
          case measure => simp [intOf]; omega
    · obtain rfl : m1 = k := by omega
      obtain ⟨wK, hwK⟩ : ∃ x, x = wr := ⟨_, rfl⟩
      subst hwK
      obtain ⟨mX, hmX⟩ : ∃ x, x = m := ⟨_, rfl⟩
      subst hmX
      obtain ⟨sX, hsX⟩ : ∃ x, x = s := ⟨_, rfl⟩
      subst hsX
      obtain ⟨kX, hkX⟩ : ∃ x, x = kq := ⟨_, rfl⟩
      subst hkX
      obtain ⟨AK, hAK⟩ : ∃ x, x = A := ⟨_, rfl⟩
      subst hAK
      obtain ⟨cK, hcK⟩ : ∃ x, x = cap := ⟨_, rfl⟩
      subst hcK
      have JX := HJ
      have KX := HK
      have OX := HO
      have lX := hl
      have QX := HKQ
      have BK : Hid (Below w.heap.size w wK) := Lib.hid (B2.out.trans (JX.out.f.below B2.out.size HX1.out))
      have JY : Hid (JH wK wK w1.heap.size none 0 ([], fun _ => 0)) := Lib.hid ⟨I2.out.frX JX.out.f (by have := HYX.out; omega) (by simp), fun b e => (by cases e), FrX.refl _ _⟩
      have HX2 : Hid (w.heap.size ≤ w1.heap.size) := Lib.hid B1.out.size
      have HXW2 : Hid (w1.heap.size < wK.heap.size) := Lib.hid (Nat.lt_of_lt_of_le HYW.out JX.out.f.size)
      clear HJ HK HO HG HKQ hl hlt
      go_wp2_with fail
      go_loopw [50, 10] (fun i s7 W => ∃ (k : Nat) (m : Option Nat) (s : List Pt × (Pt → Int)) (kq : List QOp) (A : Option Addr) (cap : Nat), k ≤ m2 ∧ i = .int .i64 k ∧ s7 = .slice A kq.length cap ∧ JH wK W (w1.heap.size) m k s ∧ Kp s kq ∧ W.ownsRow wK.heap.size 73 11 (.slice A kq.length cap) kq.length (rowO kq) ∧ (∀ g, (Value.slice A kq.length cap).ownBlock = some g → m ≠ some g) ∧ kq.length ≤ k ∧ (∀ q ∈ kq, q.ok)) (fun i _ _ => m2 - (intOf i).toNat)
      case atStart => exact ⟨0, none, ([], fun _ => 0), [], none, 0, Nat.zero_le _, rfl, rfl, JY.out, Kp.nil _, World.ownsRow_nil _ _ _ _, fun g e => (by cases e), Nat.le_refl _, fun q h => (by cases h)⟩
      case round =>
        obtain ⟨k, m, s, kq, A, cap, hk, rfl, rfl, hJ, hK, hO, hg, hl, hkq⟩ := hrel
        have HJ := Lib.hid hJ
        have HK := Lib.hid hK
        have HO := Lib.hid hO
        have HG := Lib.hid hg
        have HKQ := Lib.hid hkq
        clear hJ hK hO hg hkq
        by_cases hlt : k < m2
        · have HB : Hid (Below w.heap.size w wr) := Lib.hid (BK.out.trans (HJ.out.f.below BK.out.size HX2.out))
          have hk1 : (k : Int) < (m2 : Int) := by omega
          have hk2 : (k : Int) < (c2 : Int) := by omega
          have hk0 : 0 ≤ (k : Int) := by omega
          obtain ⟨q, hq⟩ : ∃ q, qs2[k]? = some q := ⟨_, List.getElem?_eq_getElem (by rw [HN2.out]; omega)⟩
          have HQK := Lib.hid (HOK2.out q (List.mem_of_getElem? hq))
          have HQ2 := Lib.hid HQK.out.2.1
          have HQ3 := Lib.hid HQK.out.2.2
          obtain ⟨g, o, hA, hg2, hcell⟩ := (HR2.out.below HB.out).resolve_left (fun e => by rw [e] at hq; simp at hq)
          subst hA
          have hc := hcell k q hq
          have p0 : wr.cell? ⟨g, o + k * 11, none⟩ = some (.int .i64 q.kind) := hc 0 (by omega)
          have p1 : wr.cell? ⟨g, o + k * 11 + 1, none⟩ = some (.int .u8 q.like) := hc 1 (by omega)
          have p2 : wr.cell? ⟨g, o + k * 11 + 2, none⟩ = some (.int .u64 (hi q.p.a)) := hc 2 (by omega)
          have p3 : wr.cell? ⟨g, o + k * 11 + 3, none⟩ = some (.int .u64 (lo q.p.a)) := hc 3 (by omega)
          have p4 : wr.cell? ⟨g, o + k * 11 + 4, none⟩ = some (.int .u64 (hi q.p.b)) := hc 4 (by omega)
          have p5 : wr.cell? ⟨g, o + k * 11 + 5, none⟩ = some (.int .u64 (lo q.p.b)) := hc 5 (by omega)
          have p6 : wr.cell? ⟨g, o + k * 11 + 6, none⟩ = some (.int .u64 (hi q.p.c)) := hc 6 (by omega)
          have p7 : wr.cell? ⟨g, o + k * 11 + 7, none⟩ = some (.int .u64 (lo q.p.c)) := hc 7 (by omega)
          have p8 : wr.cell? ⟨g, o + k * 11 + 8, none⟩ = some (.int .u64 (hi q.p.d)) := hc 8 (by omega)
          have p9 : wr.cell? ⟨g, o + k * 11 + 9, none⟩ = some (.int .u64 (lo q.p.d)) := hc 9 (by omega)
          have p10 : wr.cell? ⟨g, o + k * 11 + 10, none⟩ = some (.int .i64 q.id) := hc 10 (by omega)
          clear hc hcell hq
          have X7 : Hid ((wr.alloc (.cells #[.int .i64 q.kind, .int .u8 q.like, .int .u64 (hi q.p.a), .int .u64 (lo q.p.a), .int .u64 (hi q.p.b), .int .u64 (lo q.p.b), .int .u64 (hi q.p.c), .int .u64 (lo q.p.c), .int .u64 (hi q.p.d), .int .u64 (lo q.p.d), .int .i64 q.id] 73)).drew.heap[wr.heap.size]? = some (.cells #[.int .i64 q.kind, .int .u8 q.like, .int .u64 (hi q.p.a), .int .u64 (lo q.p.a), .int .u64 (hi q.p.b), .int .u64 (lo q.p.b), .int .u64 (hi q.p.c), .int .u64 (lo q.p.c), .int .u64 (hi q.p.d), .int .u64 (lo q.p.d), .int .i64 q.id] 73 (0, 0))) := Lib.hid (heap_alloc_new wr _)
          have C7 : Hid (Below wr.heap.size wr (wr.alloc (.cells #[.int .i64 q.kind, .int .u8 q.like, .int .u64 (hi q.p.a), .int .u64 (lo q.p.a), .int .u64 (hi q.p.b), .int .u64 (lo q.p.b), .int .u64 (hi q.p.c), .int .u64 (lo q.p.c), .int .u64 (hi q.p.d), .int .u64 (lo q.p.d), .int .i64 q.id] 73)).drew) := Lib.hid ((Below.refl _ wr).alloc (Nat.le_refl _) _).drew
          have J7 := Lib.hid (HJ.out.below C7.out)
          by_cases hp : opPt q.like q.p ∈ s.1
          · have HP := Lib.hid hp
            clear hp
            go_wp2_with fail
            go_region_with (first
              | (go_at_call 30; refine (qo_point q.kind q.id q.like HQ2.out q.p _).mono ?_; rintro e w8 ⟨rfl, hb8⟩; have X8 := (hb8.block _ (by simp)).trans X7.out; have x8 := blk_cellQ X8 10 _ rfl; have J8 := Lib.hid (J7.out.below hb8); have C8 := Lib.hid (C7.out.trans (hb8.mono C7.out.size)); clear hb8 X8)
              | (go_at_call 31; refine (putJ_old J8.out (by omega) _ _ HQ3.out HP.out).mono ?_; rintro e w9 ⟨rfl, hJ9, hb9⟩; have J9 := Lib.hid hJ9; have C9 := Lib.hid (C8.out.trans (hb9.mono C8.out.size)); clear hJ9 hb9))
            all_goals go_wp2_with fail
            all_goals go_roundw
            all_goals first
              | (case rel => exact ⟨k + 1, m, s, kq, A, cap, by omega, by simp, rfl, J9.out, HK.out, own_below HO.out C9.out, HG.out, by omega, HKQ.out⟩)
              | (case measure => simp [intOf]; omega)
          · have HP := Lib.hid hp
            clear hp
            have HXR : Hid (wr.heap.size ≠ w1.heap.size) := Lib.hid (by have := HXW2.out; have := HJ.out.f.size; omega)
            have HMR : Hid (m ≠ some wr.heap.size) := Lib.hid (fun e => by have := (HJ.out.i.yes _ e).2.lt; omega)
            go_wp2_with fail
            go_region_with (first
              | (go_at_call 30; refine (qo_point q.kind q.id q.like HQ2.out q.p _).mono ?_; rintro e w8 ⟨rfl, hb8⟩; have X8 := Lib.hid ((hb8.block _ (by simp)).trans X7.out); have x8 := blk_cellQ X8.out 10 _ rfl; have J8 := Lib.hid (J7.out.below hb8); have C8 := Lib.hid (C7.out.trans (hb8.mono C7.out.size)); have L8 : Hid (wr.heap.size < w8.heap.size) := Lib.hid (by have := hb8.size; simp at this; omega); clear hb8)
              | (go_at_call 31; refine (putJ_new J8.out (by omega) _ _ HQ3.out HP.out).mono ?_; rintro e w9 ⟨rfl, m', hm', hJ9, hT9⟩; have J9 := Lib.hid hJ9; have M9 := Lib.hid hm'; have T9 := Lib.hid hT9; have X9 := (hT9.keep hm' L8.out HXR.out HMR.out).trans X8.out; have y0 := blk_cellQ X9 0 _ rfl; have y1 := blk_cellQ X9 1 _ rfl; have y2 := blk_cellQ X9 2 _ rfl; have y3 := blk_cellQ X9 3 _ rfl; have y4 := blk_cellQ X9 4 _ rfl; have y5 := blk_cellQ X9 5 _ rfl; have y6 := blk_cellQ X9 6 _ rfl; have y7 := blk_cellQ X9 7 _ rfl; have y8 := blk_cellQ X9 8 _ rfl; have y9 := blk_cellQ X9 9 _ rfl; have y10 := blk_cellQ X9 10 _ rfl; have O8 := own_below HO.out C8.out; have O9 := Lib.hid (own_turn O8 hT9 hm' HXW2.out HG.out); clear hJ9 hm' hT9 X9 O8))
            all_goals
              have N9 := Lib.hid (heap_alloc_new w9 (.cells #[.int .i64 q.kind, .int .u8 q.like, .int .u64 (hi q.p.a), .int .u64 (lo q.p.a), .int .u64 (hi q.p.b), .int .u64 (lo q.p.b), .int .u64 (hi q.p.c), .int .u64 (lo q.p.c), .int .u64 (hi q.p.d), .int .u64 (lo q.p.d), .int .i64 q.id] 73))
              have S9 : Hid (wK.heap.size ≤ w9.heap.size) := Lib.hid J9.out.f.size
              go_wp2_with (at_builtin; (refine wpList_append_own_at _ rfl (.tmp 60) (.tmp 62) 65 rfl wK.heap.size 73 i0 _ 11 88 Try.underlying65 HI0.out HZ0.out HY1.out HY2.out rfl (by decide) _ kq.length _ rfl (World.ownsRow.alloc O9.out _) ⟨w9.heap.size, 0, none⟩ 1 1 q.cells rfl rfl (World.news_of_block N9.out) (QOp.cells_one q) (by unfold maxLen; omega) (by omega) (by have := S9.out; simp; omega) ?_; intro v10 w10 hO10 hg10 hi10 hn10; clear hi10; obtain ⟨A10, c10, rfl⟩ := own_shapeQ hO10; have O10 := Lib.hid hO10; have G10 := Lib.hid hg10; have N10 := Lib.hid hn10; clear hO10 hg10 hn10))
              go_roundw
              case rel =>
                have hln : (kq ++ [q]).length = kq.length + 1 := by simp
                have hold : ∀ g, (Value.slice A kq.length cap).ownBlock = some g → wK.heap.size ≤ g ∧ m' ≠ some g := fun g e => ⟨(World.ownsRow.lt O9.out g e).1, keep_ne M9.out (Nat.lt_of_lt_of_le (World.ownsRow.lt HO.out g e).2 C8.out.size) (HG.out g e)⟩
                have J10 := (J9.out.below ((Below.refl _ w9).alloc (Nat.le_refl _) (.cells #[.int .i64 q.kind, .int .u8 q.like, .int .u64 (hi q.p.a), .int .u64 (lo q.p.a), .int .u64 (hi q.p.b), .int .u64 (lo q.p.b), .int .u64 (hi q.p.c), .int .u64 (lo q.p.c), .int .u64 (hi q.p.d), .int .u64 (lo q.p.d), .int .i64 q.id] 73))).grown G10.out HXW2.out hold
                refine ⟨k + 1, m', stepP s q.pt q.id, kq ++ [q], A10, c10, by omega, by simp, by rw [hln], J10, HK.out.snoc q HP.out, ?_, fun g e => ?_, by rw [hln]; omega, fun q' hq' => ?_⟩
                · rw [hln, rowO_snoc]; exact O10.out
                · rw [hln] at e
                  rcases N10.out with h5 | h5
                  · rw [h5] at e; exact (hold g e).2
                  · rw [h5] at e
                    injection e with e
                    intro e2
                    have h6 := (J9.out.i.yes g e2).2.lt
                    simp at e
                    omega
                · rcases List.mem_append.1 hq' with h5 | h5
                  · exact HKQ.out q' h5
                  · simp at h5; rw [h5]; exact HQK.out
              case measure => simp [intOf]; omega
        · obtain rfl : m2 = k := by omega
          obtain ⟨wL, hwL⟩ : ∃ x, x = wr := ⟨_, rfl⟩
          subst hwL
          obtain ⟨mY, hmY⟩ : ∃ x, x = m := ⟨_, rfl⟩
          subst hmY
          obtain ⟨sY, hsY⟩ : ∃ x, x = s := ⟨_, rfl⟩
          subst hsY
          obtain ⟨kY, hkY⟩ : ∃ x, x = kq := ⟨_, rfl⟩
          subst hkY
          obtain ⟨AL, hAL⟩ : ∃ x, x = A := ⟨_, rfl⟩
          subst hAL
          obtain ⟨cL, hcL⟩ : ∃ x, x = cap := ⟨_, rfl⟩
          subst hcL
          have JY2 := HJ
          have KY2 := HK
          have OY2 := HO
          have GY2 := HG
          have lY := hl
          have QY := HKQ
          clear HJ HK HO HG HKQ hl hlt
          go_wp2_with fail
          go_loopw [67] (fun i W => ∃ (j : Nat) (s : List Pt × (Pt → Int)), j ≤ kY.length ∧ i = .int .i64 j ∧ JH wK W w1.heap.size mY m2 s ∧ Kp s (kY.drop j) ∧ W.ownsRow wK.heap.size 73 11 (.slice AL kY.length cL) kY.length (rowO kY)) (fun i _ => kY.length - (intOf i).toNat)
          case atStart => exact ⟨0, sY, Nat.zero_le _, rfl, JY2.out, by rw [List.drop_zero]; exact KY2.out, OY2.out⟩
          case round =>
            obtain ⟨j, s, hj, rfl, hJ, hK, hO⟩ := hrel
            have HJ := Lib.hid hJ
            have HK := Lib.hid hK
            have HO := Lib.hid hO
            clear hJ hK hO
            by_cases hlt : j < kY.length
            · obtain ⟨hR, hcL⟩ := opsR_own HO.out rfl
              have hk1 : (j : Int) < (kY.length : Int) := by omega
              have hk2 : (j : Int) < (cL : Int) := by omega
              have hk0 : 0 ≤ (j : Int) := by omega
              obtain ⟨q, hq⟩ : ∃ q, kY[j]? = some q := ⟨_, List.getElem?_eq_getElem hlt⟩
              have HQK := Lib.hid (QY.out q (List.mem_of_getElem? hq))
              have HQ2 := Lib.hid HQK.out.2.1
              obtain ⟨g, o, hA, hg2, hcell⟩ := hR.resolve_left (fun e => by rw [e] at hq; simp at hq)
              have HK2 : Hid (Kp s (q :: kY.drop (j + 1))) := Lib.hid (by have := HK.out; rwa [drop_at hq] at this)
              subst hA
              have hc := hcell j q hq
              have p0 : wr.cell? ⟨g, o + j * 11, none⟩ = some (.int .i64 q.kind) := hc 0 (by omega)
              have p1 : wr.cell? ⟨g, o + j * 11 + 1, none⟩ = some (.int .u8 q.like) := hc 1 (by omega)
              have p2 : wr.cell? ⟨g, o + j * 11 + 2, none⟩ = some (.int .u64 (hi q.p.a)) := hc 2 (by omega)
              have p3 : wr.cell? ⟨g, o + j * 11 + 3, none⟩ = some (.int .u64 (lo q.p.a)) := hc 3 (by omega)
              have p4 : wr.cell? ⟨g, o + j * 11 + 4, none⟩ = some (.int .u64 (hi q.p.b)) := hc 4 (by omega)
              have p5 : wr.cell? ⟨g, o + j * 11 + 5, none⟩ = some (.int .u64 (lo q.p.b)) := hc 5 (by omega)
              have p6 : wr.cell? ⟨g, o + j * 11 + 6, none⟩ = some (.int .u64 (hi q.p.c)) := hc 6 (by omega)
              have p7 : wr.cell? ⟨g, o + j * 11 + 7, none⟩ = some (.int .u64 (lo q.p.c)) := hc 7 (by omega)
              have p8 : wr.cell? ⟨g, o + j * 11 + 8, none⟩ = some (.int .u64 (hi q.p.d)) := hc 8 (by omega)
              have p9 : wr.cell? ⟨g, o + j * 11 + 9, none⟩ = some (.int .u64 (lo q.p.d)) := hc 9 (by omega)
              have p10 : wr.cell? ⟨g, o + j * 11 + 10, none⟩ = some (.int .i64 q.id) := hc 10 (by omega)
              clear hc hcell hq
              have C7 : Hid (Below wr.heap.size wr (wr.alloc (.cells #[.int .i64 q.kind, .int .u8 q.like, .int .u64 (hi q.p.a), .int .u64 (lo q.p.a), .int .u64 (hi q.p.b), .int .u64 (lo q.p.b), .int .u64 (hi q.p.c), .int .u64 (lo q.p.c), .int .u64 (hi q.p.d), .int .u64 (lo q.p.d), .int .i64 q.id] 73))) := Lib.hid ((Below.refl _ wr).alloc (Nat.le_refl _) _)
              have J7 := Lib.hid (HJ.out.below C7.out)
              go_wp2_with fail
              refine (qo_point q.kind q.id q.like HQ2.out q.p _).mono ?_
              rintro e w8 ⟨rfl, hb8⟩
              have J8 := Lib.hid (J7.out.below hb8)
              have C8 := Lib.hid (C7.out.trans (hb8.mono C7.out.size))
              clear hb8
              go_wp2_with fail
              refine (remJ J8.out (opPt q.like q.p) HK2.out.head).mono ?_
              rintro e w9 ⟨rfl, hJ9, hT9⟩
              have J9 := Lib.hid hJ9
              have O9 := Lib.hid (own_turn (own_below HO.out C8.out) hT9 (.inl rfl) HXW2.out GY2.out)
              clear hJ9 hT9
              go_wp2_with fail
              go_roundw
              case rel => exact ⟨j + 1, _, by omega, by simp, J9.out, HK2.out.tail, O9.out⟩
              case measure => simp [intOf]; omega
            · have hj2 : j = kY.length := by omega
              subst hj2
              obtain ⟨wM, hwM⟩ : ∃ x, x = wr := ⟨_, rfl⟩
              subst hwM
              obtain ⟨sM, hsM⟩ : ∃ x, x = s := ⟨_, rfl⟩
              subst hsM
              have JM := HJ
              have KM : Hid (Kp sM (kX.drop kX.length)) := Lib.hid (by have := HK.out; rw [List.drop_length] at this ⊢; exact this)
              clear HJ HK HO hlt
              have HIX : Hid (∀ W m' k' s', JH wK W w1.heap.size m' k' s' → IdxAt W w.heap.size mX m1 sX.1 sX.2) := Lib.hid fun W m' k' s' h => JX.out.i.frX h.f (by have := HYX.out; omega) (fun e => by have := JX.out.m _ e; have := HYW.out; omega)
              have HOX : Hid (∀ W m' k' s', JH wK W w1.heap.size m' k' s' → OpsR W AK kX) := Lib.hid fun W m' k' s' h => (opsR_own (own_frX OX.out h.f (fun e => by have := (World.ownsRow.lt OX.out _ e).1; have := HYW.out; omega)) rfl).1
              have hcK : kX.length ≤ cK := (opsR_own OX.out rfl).2
              go_wp2_with fail
              go_loopw [15] (fun i W => ∃ (j kk : Nat) (m : Option Nat) (s : List Pt × (Pt → Int)), j ≤ kX.length ∧ i = .int .i64 ((j : Int) - 1) ∧ JH wK W w1.heap.size m kk s ∧ Kp s (kX.drop j) ∧ kk + j ≤ 40) (fun i _ => (intOf i + 1).toNat)
              case atStart => exact ⟨kX.length, m2, mY, sM, Nat.le_refl _, rfl, JM.out, KM.out, by omega⟩
              case round =>
                obtain ⟨j, kk, m, s, hj, rfl, hJ, hK, hkk⟩ := hrel
                have HJ := Lib.hid hJ
                have HK := Lib.hid hK
                clear hJ hK JM KM
                rcases Nat.eq_zero_or_pos j with hj0 | hj0
                · subst hj0
                  obtain ⟨wN, hwN⟩ : ∃ x, x = wr := ⟨_, rfl⟩
                  subst hwN
                  have KN : Hid (Kp s kX) := Lib.hid (by have := HK.out; rwa [List.drop_zero] at this)
                  have BN : Hid (Below w.heap.size w wN) := Lib.hid (BK.out.trans (HJ.out.f.below BK.out.size HX2.out))
                  go_wp2_with fail
                  refine (allJ (HIX.out _ _ _ _ HJ.out) (by omega) KX.out rfl).mono ?_
                  rintro e w11 ⟨A3, c3, rfl, hP3, hc3, hb3⟩
                  have I11 := Lib.hid (HJ.out.i.below hb3)
                  have B11 := Lib.hid (BN.out.trans (hb3.mono BN.out.size))
                  have P11 := Lib.hid hP3
                  clear hP3 hb3
                  go_wp2_with fail
                  refine (allJ I11.out (by omega) KN.out rfl).mono ?_
                  rintro e w12 ⟨A4, c4, rfl, hP4, hc4, hb4⟩
                  have B12 := Lib.hid (B11.out.trans (hb4.mono B11.out.size))
                  have P12 := Lib.hid (P11.out.below hb4)
                  have Q12 := Lib.hid hP4
                  clear hP4 hb4
                  have hg : Try.prog.eqGuardType Try.prog.depth 84 = false := by kernel_rfl
                  go_wp2_with fail
                  go_loopw [115] (fun i W => ∃ j : Nat, j ≤ kX.length ∧ i = .int .i64 j ∧ Below w12.heap.size w12 W) (fun i _ => kX.length - (intOf i).toNat)
                  case atStart => exact ⟨0, Nat.zero_le _, rfl, Below.refl _ _⟩
                  case round =>
                    obtain ⟨j, hj, rfl, hbw⟩ := hrel
                    have HBW := Lib.hid hbw
                    clear hbw
                    by_cases hlt : j < kX.length
                    · obtain ⟨p, hp⟩ : ∃ p, sX.1[j]? = some p := ⟨_, List.getElem?_eq_getElem (by rw [KX.out.len]; exact hlt)⟩
                      obtain ⟨eP, eF⟩ := KX.out.sameF KN.out
                      have hpm := List.mem_of_getElem? hp
                      have hwf : (Lit.int .i64 (sX.2 p)).wf = true := by
                        obtain ⟨q, h1, h2⟩ := (KX.out.mem p).1 hpm
                        rw [← h2, KX.out.num q h1]
                        exact (QX.out q h1).2.2
                      have ev := eF p hpm
                      obtain ⟨g3, rfl, _, hcell3⟩ := (P12.out.below HBW.out).resolve_left (fun e => by rw [e] at hp; simp at hp)
                      obtain ⟨g4, rfl, _, hcell4⟩ := (Q12.out.below HBW.out).resolve_left (fun e => by rw [eP, e] at hp; simp at hp)
                      have h3 := hcell3 j p hp
                      have h4 := hcell4 j p (by rw [← eP]; exact hp)
                      unfold encP at h3 h4
                      rw [← ev] at h4
                      generalize sX.2 p = v at h3 h4 hwf
                      have hE := eqI_pair p v hwf
                      have a0 : wr.cell? ⟨g3, j * 9, none⟩ = some (.int .u64 (hi p.a)) := h3 0 (by omega)
                      have b0 : wr.cell? ⟨g4, j * 9, none⟩ = some (.int .u64 (hi p.a)) := h4 0 (by omega)
                      have a1 : wr.cell? ⟨g3, j * 9 + 1, none⟩ = some (.int .u64 (lo p.a)) := h3 1 (by omega)
                      have b1 : wr.cell? ⟨g4, j * 9 + 1, none⟩ = some (.int .u64 (lo p.a)) := h4 1 (by omega)
                      have a2 : wr.cell? ⟨g3, j * 9 + 2, none⟩ = some (.int .u64 (hi p.b)) := h3 2 (by omega)
                      have b2 : wr.cell? ⟨g4, j * 9 + 2, none⟩ = some (.int .u64 (hi p.b)) := h4 2 (by omega)
                      have a3 : wr.cell? ⟨g3, j * 9 + 3, none⟩ = some (.int .u64 (lo p.b)) := h3 3 (by omega)
                      have b3 : wr.cell? ⟨g4, j * 9 + 3, none⟩ = some (.int .u64 (lo p.b)) := h4 3 (by omega)
                      have a4 : wr.cell? ⟨g3, j * 9 + 4, none⟩ = some (.int .u64 (hi p.c)) := h3 4 (by omega)
                      have b4 : wr.cell? ⟨g4, j * 9 + 4, none⟩ = some (.int .u64 (hi p.c)) := h4 4 (by omega)
                      have a5 : wr.cell? ⟨g3, j * 9 + 5, none⟩ = some (.int .u64 (lo p.c)) := h3 5 (by omega)
                      have b5 : wr.cell? ⟨g4, j * 9 + 5, none⟩ = some (.int .u64 (lo p.c)) := h4 5 (by omega)
                      have a6 : wr.cell? ⟨g3, j * 9 + 6, none⟩ = some (.int .u64 (hi p.d)) := h3 6 (by omega)
                      have b6 : wr.cell? ⟨g4, j * 9 + 6, none⟩ = some (.int .u64 (hi p.d)) := h4 6 (by omega)
                      have a7 : wr.cell? ⟨g3, j * 9 + 7, none⟩ = some (.int .u64 (lo p.d)) := h3 7 (by omega)
                      have b7 : wr.cell? ⟨g4, j * 9 + 7, none⟩ = some (.int .u64 (lo p.d)) := h4 7 (by omega)
                      have a8 : wr.cell? ⟨g3, j * 9 + 8, none⟩ = some (.int .i64 v) := h3 8 (by omega)
                      have b8 : wr.cell? ⟨g4, j * 9 + 8, none⟩ = some (.int .i64 v) := h4 8 (by omega)
                      have j1 : (j : Int) < (kX.length : Int) := by omega
                      have j3 : (j : Int) < (c3 : Int) := by omega
                      have j4 : (j : Int) < (c4 : Int) := by omega
                      have j0 : 0 ≤ (j : Int) := by omega
                      clear h3 h4 hcell3 hcell4 hp hpm ev eF eP hwf
                      unfold Pt.cells at hE
                      simp only [List.cons_append, List.nil_append] at hE
                      go_wp2_with fail
                      go_quiet (fail)
                      go_wp2_with fail
                      go_roundw
                      case rel => exact ⟨j + 1, by omega, by simp, ⟨HBW.out.os, HBW.out.tape, HBW.out.output, HBW.out.size, HBW.out.block⟩⟩
                      case measure => simp [intOf]; omega
                    · obtain rfl : j = kX.length := by omega
                      go_wp2_with ((with_reducible refine (qb_begun _).mono ?_); rintro e w13 ⟨rfl, hb13⟩)
                      go_ret
                      have h2 := B12.out.trans (HBW.out.mono B12.out.size)
                      exact ⟨rfl, h2.trans (hb13.mono h2.size)⟩
                · obtain ⟨j', rfl⟩ : ∃ j', j = j' + 1 := ⟨j - 1, by omega⟩
                  have hjj : ((j' + 1 : Nat) : Int) - 1 = (j' : Int) := by omega
                  rw [hjj]
                  have hk1 : (j' : Int) < (kX.length : Int) := by omega
                  have hk2 : (j' : Int) < (cK : Int) := by omega
                  have hk0 : 0 ≤ (j' : Int) := by omega
                  obtain ⟨q, hq⟩ : ∃ q, kX[j']? = some q := ⟨_, List.getElem?_eq_getElem (by omega)⟩
                  have HQK := Lib.hid (QX.out q (List.mem_of_getElem? hq))
                  have HQ2 := Lib.hid HQK.out.2.1
                  have HQ3 := Lib.hid HQK.out.2.2
                  have HF : Hid (opPt q.like q.p ∉ s.1) := Lib.hid (KX.out.fresh HK.out hq)
                  have HK2 : Hid (Kp (stepP s q.pt q.id) (kX.drop j')) := Lib.hid (by rw [drop_at hq]; exact HK.out.cons q (KX.out.fresh HK.out hq))
                  obtain ⟨g, o, hA, hg2, hcell⟩ := (HOX.out _ _ _ _ HJ.out).resolve_left (fun e => by rw [e] at hq; simp at hq)
                  subst hA
                  have hc := hcell j' q hq
                  have p0 : wr.cell? ⟨g, o + j' * 11, none⟩ = some (.int .i64 q.kind) := hc 0 (by omega)
                  have p1 : wr.cell? ⟨g, o + j' * 11 + 1, none⟩ = some (.int .u8 q.like) := hc 1 (by omega)
                  have p2 : wr.cell? ⟨g, o + j' * 11 + 2, none⟩ = some (.int .u64 (hi q.p.a)) := hc 2 (by omega)
                  have p3 : wr.cell? ⟨g, o + j' * 11 + 3, none⟩ = some (.int .u64 (lo q.p.a)) := hc 3 (by omega)
                  have p4 : wr.cell? ⟨g, o + j' * 11 + 4, none⟩ = some (.int .u64 (hi q.p.b)) := hc 4 (by omega)
                  have p5 : wr.cell? ⟨g, o + j' * 11 + 5, none⟩ = some (.int .u64 (lo q.p.b)) := hc 5 (by omega)
                  have p6 : wr.cell? ⟨g, o + j' * 11 + 6, none⟩ = some (.int .u64 (hi q.p.c)) := hc 6 (by omega)
                  have p7 : wr.cell? ⟨g, o + j' * 11 + 7, none⟩ = some (.int .u64 (lo q.p.c)) := hc 7 (by omega)
                  have p8 : wr.cell? ⟨g, o + j' * 11 + 8, none⟩ = some (.int .u64 (hi q.p.d)) := hc 8 (by omega)
                  have p9 : wr.cell? ⟨g, o + j' * 11 + 9, none⟩ = some (.int .u64 (lo q.p.d)) := hc 9 (by omega)
                  have p10 : wr.cell? ⟨g, o + j' * 11 + 10, none⟩ = some (.int .i64 q.id) := hc 10 (by omega)
                  have HG := Lib.hid hg2
                  clear hc hcell hq hjj
                  have J7 : Hid (JH wK wr.drew w1.heap.size m kk s) := Lib.hid (HJ.out.below (Below.refl _ wr).drew)
                  go_wp2_with fail
                  go_region_with (first
                    | (go_at_call 30; refine (qo_point q.kind q.id q.like HQ2.out q.p _).mono ?_; rintro e w8 ⟨rfl, hb8⟩; have x8 : w8.cell? ⟨g, o + j' * 11 + 10, none⟩ = some (.int .i64 q.id) := (hb8.cell (p := ⟨g, _, none⟩) HG.out).trans p10; have J8 := Lib.hid (J7.out.below hb8); clear hb8)
                    | (go_at_call 31; refine (putJ_new J8.out (by omega) _ _ HQ3.out HF.out).mono ?_; rintro e w9 ⟨rfl, m', hm', hJ9, hT9⟩; have J9 := Lib.hid hJ9; clear hJ9 hm' hT9))
                  all_goals go_wp2_with fail
                  all_goals go_roundw
                  all_goals first
                    | (case rel => exact ⟨j', kk + 1, m', _, by omega, by simp, J9.out, HK2.out, by omega⟩)
                    | (case measure => simp [intOf]; done)
                    | (case measure => simp [intOf]; omega)
end Go.Proofs.Ytjdecoiciecfpaa
