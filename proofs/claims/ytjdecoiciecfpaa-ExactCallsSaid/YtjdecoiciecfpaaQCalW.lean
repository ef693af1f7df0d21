/- Layer 11: the walk of ExactCalls. -/
import Derived.Test.YtjdecoiciecfpaaQCal2
import Derived.Test.YtjdecoiciecfpaaQSam
namespace Go.Proofs.Ytjdecoiciecfpaa
open Go.RowKit Go.Maps Go.Sort
theorem JC.start {w w1 : World} {X : Nat} {F : Pt → Int} (h : IH w w1 X 0 ([], F)) : JC w (w1.alloc (.cells #[.slice none 0 0] 71)) X w1.heap.size 0 0 ([], F) ([], F) := by
  have hb := (Below.refl w1.heap.size w1).alloc (Nat.le_refl _) (.cells #[.slice none 0 0] 71)
  have h2 := h.below hb
  have hX := heap_alloc_new w1 (.cells #[.slice none 0 0] 71)
  exact ⟨h2.i, ⟨none, 0, 0, List.Pairwise.nil, rfl, Nat.le_refl _, by simp, by unfold World.frozen?; rw [hX]; rfl, blk_cellQ hX 0 _ rfl, .inl ⟨rfl, rfl⟩, .inl rfl⟩, h2.b, h2.x, h.b.size, Nat.le_refl _⟩
theorem tail_facts {w W : World} {X Y k n : Nat} {s : List Pt × (Pt → Int)} (h : JC w W X Y k n s s) (hk : k ≤ 100000) (hn : n ≤ 100000) : ∃ (Ay : Option Addr) (cy ln : Nat), ln ≤ 100000 ∧
    (∀ W', Below W.heap.size W W' → Calls Try.prog 37 #[.pointer (some ⟨X, 0, none⟩)] W' fun e w' => e = .returned (.int .i64 ln) ∧ w' = W') ∧
    (∀ W', Below W.heap.size W W' → Calls Try.prog 39 #[.pointer (some ⟨X, 0, none⟩)] W' fun e w' => ∃ A c, e = .returned (.slice A ln c) ∧ PairsR w' A s.1 s.2 ∧ ln ≤ c ∧ Below W'.heap.size W' w') ∧
    (∀ W', Below W.heap.size W W' → W'.cell? ⟨Y, 0, none⟩ = some (.slice Ay ln cy)) ∧
    (∀ W' A c, Below W.heap.size W W' → PairsR W' A s.1 s.2 → ln ≤ c → Calls Try.prog 38 #[.slice A ln c, .slice Ay ln cy] W' (RetX (.bool true) W')) := by
  obtain ⟨Ay, ly, cy, hR⟩ := h.r
  have hl := h.l
  obtain rfl := hR.len
  refine ⟨Ay, cy, s.1.length, by omega, fun W' hb => lenX (h.below hb), fun W' hb => allX (h.below hb) hk, fun W' hb => (hR.below hb).c, fun W' A c hb hp hc => qs_same hp (hR.below hb).row rfl hc hR.room (by omega)⟩
set_option maxRecDepth 100000 in
set_option maxHeartbeats 4000000 in
theorem calls_any (w : World) (A : Option Addr) (n cap : Nat) (qs : List QOp) (hn : qs.length = n) (hc : n ≤ cap) (hm : cap ≤ 9223372036854775807) (hok : ∀ q ∈ qs, q.ok) (hr : OpsR w A qs) : Calls Try.prog 5 #[.slice A n cap] w (RetX (.bool true) w) := by
  have HN := Lib.hid hn
  have HOK := Lib.hid hok
  have HR := Lib.hid hr
  obtain ⟨mm, hmm⟩ : ∃ mm : Nat, mm = min n 60 := ⟨_, rfl⟩
  have hmin : min (n : Int) 60 = (mm : Int) := by omega
  have hmn : mm ≤ n := by omega
  have hm60 : mm ≤ 60 := by omega
  have HMM := Lib.hid hmm
  clear hn hok hr hmm
  go_enter Try.func5, Try.ntmps5
  go_wp2_with ((with_reducible refine (newStep (Below.refl w.heap.size w)).mono ?_); rintro e w1 ⟨rfl, hI1⟩; have J1 := Lib.hid (JC.start hI1); clear hI1)
  go_loopw [21] (fun i W => ∃ (k : Nat) (s : List Pt × (Pt → Int)), k ≤ mm ∧ i = .int .i64 k ∧ JC w W w.heap.size w1.heap.size k k s s) (fun i _ => mm - (intOf i).toNat)
  case atStart => exact ⟨0, ([], fun _ => 0), Nat.zero_le _, rfl, J1.out⟩
  case round =>
    obtain ⟨k, s, hk, rfl, hJ⟩ := hrel
    have HJ := Lib.hid hJ
    clear hJ
    by_cases hlt : k < mm
    · have hk1 : (k : Int) < (mm : Int) := by omega
      have hk2 : (k : Int) < (cap : Int) := by omega
      have hk0 : 0 ≤ (k : Int) := by omega
      obtain ⟨q, hq⟩ : ∃ q, qs[k]? = some q := ⟨_, List.getElem?_eq_getElem (by rw [HN.out]; omega)⟩
      obtain ⟨hok1, hok2, hok3⟩ := HOK.out q (List.mem_of_getElem? hq)
      obtain ⟨g, o, rfl, hg, hcell⟩ := (HR.out.below HJ.out.b).resolve_left (fun e => by rw [e] at hq; simp at hq)
      have hc := hcell k q hq
      have p0 : wr.cell? ⟨g, o + k * 11, none⟩ = some (.int .i64 q.kind) := hc 0 (by omega)
      have p1 : wr.cell? ⟨g, o + k * 11 + 1, none⟩ = some (.int .u8 q.like) := hc 1 (by omega)
      have p2 : wr.cell? ⟨g, o + k * 11 + 2, none⟩ = some (.int .u64 (hi q.p.a)) := hc 2 (by omega)
      have p3 : wr.cell? ⟨g, o + k * 11 + 3, none⟩ = some (.int .u64 (lo q.p.a)) := hc 3 (by omega)
      have p4 : wr.cell? ⟨g, o + k * 11 + 4, none⟩ = some (.int .u64 (hi q.p.b)) := hc 4 (by omega)
      have p5 : wr.cell? ⟨g, o + k * 11 + 5, none⟩ = some (.int .u64 (lo q.p.b)) := hc 5 (by omega)
      have p6 : wr.cell? ⟨g, o + k * 11 + 6, none⟩ = some (.int .u64 (hi q.p.c)) := hc 6 (by omega)
      have p7 : wr.cell? ⟨g, o + k * 11 + 7, none⟩ = some (.int .u64 (lo q.p.c)) := hc 7 (by omega)
      have p8 : wr.cell? ⟨g, o + k * 11 + 8, none⟩ = some (.int .u64 (hi q.p.d)) := hc 8 (by omega)
      have p9 : wr.cell? ⟨g, o + k * 11 + 9, none⟩ = some (.int .u64 (lo q.p.d)) := hc 9 (by omega)
      have p10 : wr.cell? ⟨g, o + k * 11 + 10, none⟩ = some (.int .i64 q.id) := hc 10 (by omega)
      have HOK2 := Lib.hid hok2
      have HOK3 := Lib.hid hok3
      clear hc hcell hok1 hok2 hok3 hq
      have X6 : Hid ((wr.alloc (.cells #[.int .i64 q.kind, .int .u8 q.like, .int .u64 (hi q.p.a), .int .u64 (lo q.p.a), .int .u64 (hi q.p.b), .int .u64 (lo q.p.b), .int .u64 (hi q.p.c), .int .u64 (lo q.p.c), .int .u64 (hi q.p.d), .int .u64 (lo q.p.d), .int .i64 q.id] 73)).heap[wr.heap.size]? = some (.cells #[.int .i64 q.kind, .int .u8 q.like, .int .u64 (hi q.p.a), .int .u64 (lo q.p.a), .int .u64 (hi q.p.b), .int .u64 (lo q.p.b), .int .u64 (hi q.p.c), .int .u64 (lo q.p.c), .int .u64 (hi q.p.d), .int .u64 (lo q.p.d), .int .i64 q.id] 73 (0, 0))) := Lib.hid (heap_alloc_new wr _)
      have J7 := Lib.hid (HJ.out.below ((Below.refl _ wr).alloc (Nat.le_refl _) (.cells #[.int .i64 q.kind, .int .u8 q.like, .int .u64 (hi q.p.a), .int .u64 (lo q.p.a), .int .u64 (hi q.p.b), .int .u64 (lo q.p.b), .int .u64 (hi q.p.c), .int .u64 (lo q.p.c), .int .u64 (hi q.p.d), .int .u64 (lo q.p.d), .int .i64 q.id] 73)))
      obtain ⟨z, hz⟩ : ∃ z, z = q.kind.tmod 4 := ⟨_, rfl⟩
      have hpt := fun W => qo_point q.kind q.id q.like HOK2.out q.p W
      obtain ⟨P, hP⟩ : ∃ P, P = opPt q.like q.p := ⟨_, rfl⟩
      rw [← hP] at hpt
      clear hP
      unfold RetPt ptV at hpt
      go_wp2_with ((with_reducible refine (hpt _).mono ?_); rintro e w8 ⟨rfl, hb8⟩; have L6 := Lib.hid hb8.size; have X68 := (hb8.block _ (by simp)).trans X6.out; have J8 := J7.out.below hb8; have J9 := Lib.hid (J8.below ((Below.refl w8.heap.size w8).alloc (Nat.le_refl _) (.cells #[.int .u64 (hi P.a), .int .u64 (lo P.a), .int .u64 (hi P.b), .int .u64 (lo P.b), .int .u64 (hi P.c), .int .u64 (lo P.c), .int .u64 (hi P.d), .int .u64 (lo P.d)] 29))); have X6w9 := Lib.hid ((heap_alloc_old w8 (.cells #[.int .u64 (hi P.a), .int .u64 (lo P.a), .int .u64 (hi P.b), .int .u64 (lo P.b), .int .u64 (hi P.c), .int .u64 (lo P.c), .int .u64 (hi P.d), .int .u64 (lo P.d)] 29) (blk_lt X68)).trans X68); have X7w9 := Lib.hid (heap_alloc_new w8 (.cells #[.int .u64 (hi P.a), .int .u64 (lo P.a), .int .u64 (hi P.b), .int .u64 (lo P.b), .int .u64 (hi P.c), .int .u64 (lo P.c), .int .u64 (hi P.d), .int .u64 (lo P.d)] 29)); have x0 := blk_cellQ X6w9.out 0 _ rfl; clear hb8 X68 J8)
      · obtain ⟨W9, hW9⟩ : ∃ x, x = w8.alloc (.cells #[.int .u64 (hi P.a), .int .u64 (lo P.a), .int .u64 (hi P.b), .int .u64 (lo P.b), .int .u64 (hi P.c), .int .u64 (lo P.c), .int .u64 (hi P.d), .int .u64 (lo P.d)] 29) := ⟨_, rfl⟩
        rw [← hW9] at J9 X6w9 X7w9 ⊢
        clear hW9 x0
        have Jd := Lib.hid (J9.out.below (Below.refl _ _).drew)
        have d10 : W9.drew.cell? ⟨wr.heap.size, 10, none⟩ = some (.int .i64 q.id) := blk_cellQ (w := W9.drew) X6w9.out 10 _ rfl
        have d0 : W9.drew.cell? ⟨w8.heap.size, 0, none⟩ = some (.int .u64 (hi P.a)) := blk_cellQ (w := W9.drew) X7w9.out 0 _ rfl
        have d1 : W9.drew.cell? ⟨w8.heap.size, 1, none⟩ = some (.int .u64 (lo P.a)) := blk_cellQ (w := W9.drew) X7w9.out 1 _ rfl
        have d2 : W9.drew.cell? ⟨w8.heap.size, 2, none⟩ = some (.int .u64 (hi P.b)) := blk_cellQ (w := W9.drew) X7w9.out 2 _ rfl
        have d3 : W9.drew.cell? ⟨w8.heap.size, 3, none⟩ = some (.int .u64 (lo P.b)) := blk_cellQ (w := W9.drew) X7w9.out 3 _ rfl
        have d4 : W9.drew.cell? ⟨w8.heap.size, 4, none⟩ = some (.int .u64 (hi P.c)) := blk_cellQ (w := W9.drew) X7w9.out 4 _ rfl
        have d5 : W9.drew.cell? ⟨w8.heap.size, 5, none⟩ = some (.int .u64 (lo P.c)) := blk_cellQ (w := W9.drew) X7w9.out 5 _ rfl
        have d6 : W9.drew.cell? ⟨w8.heap.size, 6, none⟩ = some (.int .u64 (hi P.d)) := blk_cellQ (w := W9.drew) X7w9.out 6 _ rfl
        have d7 : W9.drew.cell? ⟨w8.heap.size, 7, none⟩ = some (.int .u64 (lo P.d)) := blk_cellQ (w := W9.drew) X7w9.out 7 _ rfl
        have hlx : w.heap.size < wr.heap.size := by obtain ⟨m, h1, _⟩ := HJ.out.i; exact h1.lt
        have hly : w1.heap.size < wr.heap.size := by obtain ⟨_, _, _, h1⟩ := HJ.out.r; exact h1.lt
        have hl8 : wr.heap.size < w8.heap.size := by have := L6.out; simp at this; omega
        have NX6 : Hid (wr.heap.size ≠ w.heap.size) := Lib.hid (by omega)
        have NY6 : Hid (wr.heap.size ≠ w1.heap.size) := Lib.hid (by omega)
        have NX7 : Hid (w8.heap.size ≠ w.heap.size) := Lib.hid (by omega)
        have NY7 : Hid (w8.heap.size ≠ w1.heap.size) := Lib.hid (by omega)
        clear hlx hly hl8
        have HBX : Hid (∀ W : World, W.heap[wr.heap.size]? = some (.cells #[.int .i64 q.kind, .int .u8 q.like, .int .u64 (hi q.p.a), .int .u64 (lo q.p.a), .int .u64 (hi q.p.b), .int .u64 (lo q.p.b), .int .u64 (hi q.p.c), .int .u64 (lo q.p.c), .int .u64 (hi q.p.d), .int .u64 (lo q.p.d), .int .i64 q.id] 73 (0, 0)) → W.heap[w8.heap.size]? = some (.cells #[.int .u64 (hi P.a), .int .u64 (lo P.a), .int .u64 (hi P.b), .int .u64 (lo P.b), .int .u64 (hi P.c), .int .u64 (lo P.c), .int .u64 (hi P.d), .int .u64 (lo P.d)] 29 (0, 0)) → W.cell? ⟨wr.heap.size, 10, none⟩ = some (.int .i64 q.id) ∧ W.cell? ⟨w8.heap.size, 0, none⟩ = some (.int .u64 (hi P.a)) ∧ W.cell? ⟨w8.heap.size, 1, none⟩ = some (.int .u64 (lo P.a)) ∧ W.cell? ⟨w8.heap.size, 2, none⟩ = some (.int .u64 (hi P.b)) ∧ W.cell? ⟨w8.heap.size, 3, none⟩ = some (.int .u64 (lo P.b)) ∧ W.cell? ⟨w8.heap.size, 4, none⟩ = some (.int .u64 (hi P.c)) ∧ W.cell? ⟨w8.heap.size, 5, none⟩ = some (.int .u64 (lo P.c)) ∧ W.cell? ⟨w8.heap.size, 6, none⟩ = some (.int .u64 (hi P.d)) ∧ W.cell? ⟨w8.heap.size, 7, none⟩ = some (.int .u64 (lo P.d))) := Lib.hid fun W h6 h7 => ⟨blk_cellQ h6 10 _ rfl, blk_cellQ h7 0 _ rfl, blk_cellQ h7 1 _ rfl, blk_cellQ h7 2 _ rfl, blk_cellQ h7 3 _ rfl, blk_cellQ h7 4 _ rfl, blk_cellQ h7 5 _ rfl, blk_cellQ h7 6 _ rfl, blk_cellQ h7 7 _ rfl⟩
        go_region_held3 (fun W => W.cell? ⟨wr.heap.size, 10, none⟩ = some (.int .i64 q.id) ∧ W.cell? ⟨w8.heap.size, 0, none⟩ = some (.int .u64 (hi P.a)) ∧ W.cell? ⟨w8.heap.size, 1, none⟩ = some (.int .u64 (lo P.a)) ∧ W.cell? ⟨w8.heap.size, 2, none⟩ = some (.int .u64 (hi P.b)) ∧ W.cell? ⟨w8.heap.size, 3, none⟩ = some (.int .u64 (lo P.b)) ∧ W.cell? ⟨w8.heap.size, 4, none⟩ = some (.int .u64 (hi P.c)) ∧ W.cell? ⟨w8.heap.size, 5, none⟩ = some (.int .u64 (lo P.c)) ∧ W.cell? ⟨w8.heap.size, 6, none⟩ = some (.int .u64 (hi P.d)) ∧ W.cell? ⟨w8.heap.size, 7, none⟩ = some (.int .u64 (lo P.d)))
          (first
            | exact HBX.out _ X6w11.out X7w11.out
            | exact HBX.out _ X6w10.out X7w10.out
            | exact HBX.out _ X6w9.out X7w9.out)
          (first
            | (go_at_call 31; refine (putX Jd.out (by omega) P q.id HOK3.out).mono ?_; rintro e w10 ⟨rfl, hJ, hk⟩; have J10 := Lib.hid hJ; have X6w10 := Lib.hid (hk.block _ _ _ _ X6w9.out NX6.out NY6.out); have X7w10 := Lib.hid (hk.block _ _ _ _ X7w9.out NX7.out NY7.out); clear hJ hk)
            | (go_at_call 32; refine (putY J10.out (by omega) P q.id).mono ?_; rintro e w11 ⟨rfl, hJ, hk⟩; have J11 := Lib.hid hJ; have X6w11 := Lib.hid (hk.block _ _ _ _ X6w10.out NX6.out NY6.out); have X7w11 := Lib.hid (hk.block _ _ _ _ X7w10.out NX7.out NY7.out); clear hJ hk))
        go_wp2_with fail
        obtain ⟨Ay, cy, ln, hln, hLen, hAll, hY, hSame⟩ := tail_facts J11.out (by omega) (by omega)
        have HL := Lib.hid hLen
        have HA := Lib.hid hAll
        have HY := Lib.hid hY
        have HS := Lib.hid hSame
        have HKY : Hid (∀ W, Below w11.heap.size w11 W → Below w11.heap.size w11 W ∧ W.cell? ⟨w1.heap.size, 0, none⟩ = some (.slice Ay ln cy)) := Lib.hid fun W hb => ⟨hb, hY W hb⟩
        clear hLen hAll hY hSame
        go_region_held3 (fun W => Below w11.heap.size w11 W ∧ W.cell? ⟨w1.heap.size, 0, none⟩ = some (.slice Ay ln cy))
          (first
            | exact HKY.out _ B22.out
            | exact HKY.out _ B21.out
            | exact HKY.out _ (Below.drew (Below.refl _ _)))
          (first
            | (go_at_call 37; refine (HL.out _ (Below.refl _ _).drew).mono ?_; rintro e w20 ⟨rfl, rfl⟩)
            | (go_at_call 39; refine (HA.out _ (Below.refl _ _).drew).mono ?_; rintro e w21 ⟨A1, c1, rfl, hP, hc1, hb⟩; have B21 := Lib.hid ((Below.refl w11.heap.size w11).drew.trans hb); have P21 := Lib.hid hP; have C1 := Lib.hid hc1; clear hP hc1 hb)
            | (go_at_call 38; refine (HS.out _ A1 c1 B21.out P21.out C1.out).mono ?_; rintro e w22 ⟨rfl, hb⟩; have B22 := Lib.hid (B21.out.trans (hb.mono B21.out.size)); clear hb))
        go_wp2_with fail
        go_roundw
        case rel => exact ⟨k + 1, _, by omega, by simp, J11.out.below B22.out⟩
        case measure => simp [intOf]; omega
      · obtain ⟨W9, hW9⟩ : ∃ x, x = w8.alloc (.cells #[.int .u64 (hi P.a), .int .u64 (lo P.a), .int .u64 (hi P.b), .int .u64 (lo P.b), .int .u64 (hi P.c), .int .u64 (lo P.c), .int .u64 (hi P.d), .int .u64 (lo P.d)] 29) := ⟨_, rfl⟩
        rw [← hW9] at J9 X6w9 X7w9 ⊢
        clear hW9 x0
        have Jd := Lib.hid (J9.out.below (Below.refl _ _).drew)
        have d10 : W9.drew.cell? ⟨wr.heap.size, 10, none⟩ = some (.int .i64 q.id) := blk_cellQ (w := W9.drew) X6w9.out 10 _ rfl
        have d0 : W9.drew.cell? ⟨w8.heap.size, 0, none⟩ = some (.int .u64 (hi P.a)) := blk_cellQ (w := W9.drew) X7w9.out 0 _ rfl
        have d1 : W9.drew.cell? ⟨w8.heap.size, 1, none⟩ = some (.int .u64 (lo P.a)) := blk_cellQ (w := W9.drew) X7w9.out 1 _ rfl
        have d2 : W9.drew.cell? ⟨w8.heap.size, 2, none⟩ = some (.int .u64 (hi P.b)) := blk_cellQ (w := W9.drew) X7w9.out 2 _ rfl
        have d3 : W9.drew.cell? ⟨w8.heap.size, 3, none⟩ = some (.int .u64 (lo P.b)) := blk_cellQ (w := W9.drew) X7w9.out 3 _ rfl
        have d4 : W9.drew.cell? ⟨w8.heap.size, 4, none⟩ = some (.int .u64 (hi P.c)) := blk_cellQ (w := W9.drew) X7w9.out 4 _ rfl
        have d5 : W9.drew.cell? ⟨w8.heap.size, 5, none⟩ = some (.int .u64 (lo P.c)) := blk_cellQ (w := W9.drew) X7w9.out 5 _ rfl
        have d6 : W9.drew.cell? ⟨w8.heap.size, 6, none⟩ = some (.int .u64 (hi P.d)) := blk_cellQ (w := W9.drew) X7w9.out 6 _ rfl
        have d7 : W9.drew.cell? ⟨w8.heap.size, 7, none⟩ = some (.int .u64 (lo P.d)) := blk_cellQ (w := W9.drew) X7w9.out 7 _ rfl
        have hlx : w.heap.size < wr.heap.size := by obtain ⟨m, h1, _⟩ := HJ.out.i; exact h1.lt
        have hly : w1.heap.size < wr.heap.size := by obtain ⟨_, _, _, h1⟩ := HJ.out.r; exact h1.lt
        have hl8 : wr.heap.size < w8.heap.size := by have := L6.out; simp at this; omega
        have NX6 : Hid (wr.heap.size ≠ w.heap.size) := Lib.hid (by omega)
        have NY6 : Hid (wr.heap.size ≠ w1.heap.size) := Lib.hid (by omega)
        have NX7 : Hid (w8.heap.size ≠ w.heap.size) := Lib.hid (by omega)
        have NY7 : Hid (w8.heap.size ≠ w1.heap.size) := Lib.hid (by omega)
        clear hlx hly hl8
        have HBX : Hid (∀ W : World, W.heap[wr.heap.size]? = some (.cells #[.int .i64 q.kind, .int .u8 q.like, .int .u64 (hi q.p.a), .int .u64 (lo q.p.a), .int .u64 (hi q.p.b), .int .u64 (lo q.p.b), .int .u64 (hi q.p.c), .int .u64 (lo q.p.c), .int .u64 (hi q.p.d), .int .u64 (lo q.p.d), .int .i64 q.id] 73 (0, 0)) → W.heap[w8.heap.size]? = some (.cells #[.int .u64 (hi P.a), .int .u64 (lo P.a), .int .u64 (hi P.b), .int .u64 (lo P.b), .int .u64 (hi P.c), .int .u64 (lo P.c), .int .u64 (hi P.d), .int .u64 (lo P.d)] 29 (0, 0)) → W.cell? ⟨wr.heap.size, 10, none⟩ = some (.int .i64 q.id) ∧ W.cell? ⟨w8.heap.size, 0, none⟩ = some (.int .u64 (hi P.a)) ∧ W.cell? ⟨w8.heap.size, 1, none⟩ = some (.int .u64 (lo P.a)) ∧ W.cell? ⟨w8.heap.size, 2, none⟩ = some (.int .u64 (hi P.b)) ∧ W.cell? ⟨w8.heap.size, 3, none⟩ = some (.int .u64 (lo P.b)) ∧ W.cell? ⟨w8.heap.size, 4, none⟩ = some (.int .u64 (hi P.c)) ∧ W.cell? ⟨w8.heap.size, 5, none⟩ = some (.int .u64 (lo P.c)) ∧ W.cell? ⟨w8.heap.size, 6, none⟩ = some (.int .u64 (hi P.d)) ∧ W.cell? ⟨w8.heap.size, 7, none⟩ = some (.int .u64 (lo P.d))) := Lib.hid fun W h6 h7 => ⟨blk_cellQ h6 10 _ rfl, blk_cellQ h7 0 _ rfl, blk_cellQ h7 1 _ rfl, blk_cellQ h7 2 _ rfl, blk_cellQ h7 3 _ rfl, blk_cellQ h7 4 _ rfl, blk_cellQ h7 5 _ rfl, blk_cellQ h7 6 _ rfl, blk_cellQ h7 7 _ rfl⟩
        go_region_held3 (fun W => W.cell? ⟨wr.heap.size, 10, none⟩ = some (.int .i64 q.id) ∧ W.cell? ⟨w8.heap.size, 0, none⟩ = some (.int .u64 (hi P.a)) ∧ W.cell? ⟨w8.heap.size, 1, none⟩ = some (.int .u64 (lo P.a)) ∧ W.cell? ⟨w8.heap.size, 2, none⟩ = some (.int .u64 (hi P.b)) ∧ W.cell? ⟨w8.heap.size, 3, none⟩ = some (.int .u64 (lo P.b)) ∧ W.cell? ⟨w8.heap.size, 4, none⟩ = some (.int .u64 (hi P.c)) ∧ W.cell? ⟨w8.heap.size, 5, none⟩ = some (.int .u64 (lo P.c)) ∧ W.cell? ⟨w8.heap.size, 6, none⟩ = some (.int .u64 (hi P.d)) ∧ W.cell? ⟨w8.heap.size, 7, none⟩ = some (.int .u64 (lo P.d)))
          (first
            | exact HBX.out _ X6w11.out X7w11.out
            | exact HBX.out _ X6w10.out X7w10.out
            | exact HBX.out _ X6w9.out X7w9.out)
          (first
            | (go_at_call 31; refine (putX Jd.out (by omega) P q.id HOK3.out).mono ?_; rintro e w10 ⟨rfl, hJ, hk⟩; have J10 := Lib.hid hJ; have X6w10 := Lib.hid (hk.block _ _ _ _ X6w9.out NX6.out NY6.out); have X7w10 := Lib.hid (hk.block _ _ _ _ X7w9.out NX7.out NY7.out); clear hJ hk)
            | (go_at_call 32; refine (putY J10.out (by omega) P q.id).mono ?_; rintro e w11 ⟨rfl, hJ, hk⟩; have J11 := Lib.hid hJ; have X6w11 := Lib.hid (hk.block _ _ _ _ X6w10.out NX6.out NY6.out); have X7w11 := Lib.hid (hk.block _ _ _ _ X7w10.out NX7.out NY7.out); clear hJ hk))
        go_wp2_with fail
        obtain ⟨Ay, cy, ln, hln, hLen, hAll, hY, hSame⟩ := tail_facts J11.out (by omega) (by omega)
        have HL := Lib.hid hLen
        have HA := Lib.hid hAll
        have HY := Lib.hid hY
        have HS := Lib.hid hSame
        have HKY : Hid (∀ W, Below w11.heap.size w11 W → Below w11.heap.size w11 W ∧ W.cell? ⟨w1.heap.size, 0, none⟩ = some (.slice Ay ln cy)) := Lib.hid fun W hb => ⟨hb, hY W hb⟩
        clear hLen hAll hY hSame
        go_region_held3 (fun W => Below w11.heap.size w11 W ∧ W.cell? ⟨w1.heap.size, 0, none⟩ = some (.slice Ay ln cy))
          (first
            | exact HKY.out _ B22.out
            | exact HKY.out _ B21.out
            | exact HKY.out _ (Below.drew (Below.refl _ _)))
          (first
            | (go_at_call 37; refine (HL.out _ (Below.refl _ _).drew).mono ?_; rintro e w20 ⟨rfl, rfl⟩)
            | (go_at_call 39; refine (HA.out _ (Below.refl _ _).drew).mono ?_; rintro e w21 ⟨A1, c1, rfl, hP, hc1, hb⟩; have B21 := Lib.hid ((Below.refl w11.heap.size w11).drew.trans hb); have P21 := Lib.hid hP; have C1 := Lib.hid hc1; clear hP hc1 hb)
            | (go_at_call 38; refine (HS.out _ A1 c1 B21.out P21.out C1.out).mono ?_; rintro e w22 ⟨rfl, hb⟩; have B22 := Lib.hid (B21.out.trans (hb.mono B21.out.size)); clear hb))
        go_wp2_with fail
        go_roundw
        case rel => exact ⟨k + 1, _, by omega, by simp, J11.out.below B22.out⟩
        case measure => simp [intOf]; omega
      · obtain ⟨W9, hW9⟩ : ∃ x, x = w8.alloc (.cells #[.int .u64 (hi P.a), .int .u64 (lo P.a), .int .u64 (hi P.b), .int .u64 (lo P.b), .int .u64 (hi P.c), .int .u64 (lo P.c), .int .u64 (hi P.d), .int .u64 (lo P.d)] 29) := ⟨_, rfl⟩
        rw [← hW9] at J9 X6w9 X7w9 ⊢
        clear hW9 x0
        have Jd := Lib.hid (J9.out.below (Below.refl _ _).drew)
        have d10 : W9.drew.cell? ⟨wr.heap.size, 10, none⟩ = some (.int .i64 q.id) := blk_cellQ (w := W9.drew) X6w9.out 10 _ rfl
        have d0 : W9.drew.cell? ⟨w8.heap.size, 0, none⟩ = some (.int .u64 (hi P.a)) := blk_cellQ (w := W9.drew) X7w9.out 0 _ rfl
        have d1 : W9.drew.cell? ⟨w8.heap.size, 1, none⟩ = some (.int .u64 (lo P.a)) := blk_cellQ (w := W9.drew) X7w9.out 1 _ rfl
        have d2 : W9.drew.cell? ⟨w8.heap.size, 2, none⟩ = some (.int .u64 (hi P.b)) := blk_cellQ (w := W9.drew) X7w9.out 2 _ rfl
        have d3 : W9.drew.cell? ⟨w8.heap.size, 3, none⟩ = some (.int .u64 (lo P.b)) := blk_cellQ (w := W9.drew) X7w9.out 3 _ rfl
        have d4 : W9.drew.cell? ⟨w8.heap.size, 4, none⟩ = some (.int .u64 (hi P.c)) := blk_cellQ (w := W9.drew) X7w9.out 4 _ rfl
        have d5 : W9.drew.cell? ⟨w8.heap.size, 5, none⟩ = some (.int .u64 (lo P.c)) := blk_cellQ (w := W9.drew) X7w9.out 5 _ rfl
        have d6 : W9.drew.cell? ⟨w8.heap.size, 6, none⟩ = some (.int .u64 (hi P.d)) := blk_cellQ (w := W9.drew) X7w9.out 6 _ rfl
        have d7 : W9.drew.cell? ⟨w8.heap.size, 7, none⟩ = some (.int .u64 (lo P.d)) := blk_cellQ (w := W9.drew) X7w9.out 7 _ rfl
        have hlx : w.heap.size < wr.heap.size := by obtain ⟨m, h1, _⟩ := HJ.out.i; exact h1.lt
        have hly : w1.heap.size < wr.heap.size := by obtain ⟨_, _, _, h1⟩ := HJ.out.r; exact h1.lt
        have hl8 : wr.heap.size < w8.heap.size := by have := L6.out; simp at this; omega
        have NX6 : Hid (wr.heap.size ≠ w.heap.size) := Lib.hid (by omega)
        have NY6 : Hid (wr.heap.size ≠ w1.heap.size) := Lib.hid (by omega)
        have NX7 : Hid (w8.heap.size ≠ w.heap.size) := Lib.hid (by omega)
        have NY7 : Hid (w8.heap.size ≠ w1.heap.size) := Lib.hid (by omega)
        clear hlx hly hl8
        have HBX : Hid (∀ W : World, W.heap[wr.heap.size]? = some (.cells #[.int .i64 q.kind, .int .u8 q.like, .int .u64 (hi q.p.a), .int .u64 (lo q.p.a), .int .u64 (hi q.p.b), .int .u64 (lo q.p.b), .int .u64 (hi q.p.c), .int .u64 (lo q.p.c), .int .u64 (hi q.p.d), .int .u64 (lo q.p.d), .int .i64 q.id] 73 (0, 0)) → W.heap[w8.heap.size]? = some (.cells #[.int .u64 (hi P.a), .int .u64 (lo P.a), .int .u64 (hi P.b), .int .u64 (lo P.b), .int .u64 (hi P.c), .int .u64 (lo P.c), .int .u64 (hi P.d), .int .u64 (lo P.d)] 29 (0, 0)) → W.cell? ⟨wr.heap.size, 10, none⟩ = some (.int .i64 q.id) ∧ W.cell? ⟨w8.heap.size, 0, none⟩ = some (.int .u64 (hi P.a)) ∧ W.cell? ⟨w8.heap.size, 1, none⟩ = some (.int .u64 (lo P.a)) ∧ W.cell? ⟨w8.heap.size, 2, none⟩ = some (.int .u64 (hi P.b)) ∧ W.cell? ⟨w8.heap.size, 3, none⟩ = some (.int .u64 (lo P.b)) ∧ W.cell? ⟨w8.heap.size, 4, none⟩ = some (.int .u64 (hi P.c)) ∧ W.cell? ⟨w8.heap.size, 5, none⟩ = some (.int .u64 (lo P.c)) ∧ W.cell? ⟨w8.heap.size, 6, none⟩ = some (.int .u64 (hi P.d)) ∧ W.cell? ⟨w8.heap.size, 7, none⟩ = some (.int .u64 (lo P.d))) := Lib.hid fun W h6 h7 => ⟨blk_cellQ h6 10 _ rfl, blk_cellQ h7 0 _ rfl, blk_cellQ h7 1 _ rfl, blk_cellQ h7 2 _ rfl, blk_cellQ h7 3 _ rfl, blk_cellQ h7 4 _ rfl, blk_cellQ h7 5 _ rfl, blk_cellQ h7 6 _ rfl, blk_cellQ h7 7 _ rfl⟩
        go_region_held3 (fun W => W.cell? ⟨wr.heap.size, 10, none⟩ = some (.int .i64 q.id) ∧ W.cell? ⟨w8.heap.size, 0, none⟩ = some (.int .u64 (hi P.a)) ∧ W.cell? ⟨w8.heap.size, 1, none⟩ = some (.int .u64 (lo P.a)) ∧ W.cell? ⟨w8.heap.size, 2, none⟩ = some (.int .u64 (hi P.b)) ∧ W.cell? ⟨w8.heap.size, 3, none⟩ = some (.int .u64 (lo P.b)) ∧ W.cell? ⟨w8.heap.size, 4, none⟩ = some (.int .u64 (hi P.c)) ∧ W.cell? ⟨w8.heap.size, 5, none⟩ = some (.int .u64 (lo P.c)) ∧ W.cell? ⟨w8.heap.size, 6, none⟩ = some (.int .u64 (hi P.d)) ∧ W.cell? ⟨w8.heap.size, 7, none⟩ = some (.int .u64 (lo P.d)))
          (first
            | exact HBX.out _ X6w11.out X7w11.out
            | exact HBX.out _ X6w10.out X7w10.out
            | exact HBX.out _ X6w9.out X7w9.out)
          (first
            | (go_at_call 33; refine (remX Jd.out P).mono ?_; rintro e w10 ⟨rfl, hJ, hk⟩; have J10 := Lib.hid hJ; have X6w10 := Lib.hid (hk.block _ _ _ _ X6w9.out NX6.out NY6.out); have X7w10 := Lib.hid (hk.block _ _ _ _ X7w9.out NX7.out NY7.out); clear hJ hk)
            | (go_at_call 34; refine (remY J10.out (by omega) P).mono ?_; rintro e w11 ⟨rfl, hJ, hk⟩; have J11 := Lib.hid hJ; have X6w11 := Lib.hid (hk.block _ _ _ _ X6w10.out NX6.out NY6.out); have X7w11 := Lib.hid (hk.block _ _ _ _ X7w10.out NX7.out NY7.out); clear hJ hk))
        go_wp2_with fail
        have J12 := Lib.hid (J11.out.mono (Nat.le_succ k) (Nat.le_succ k))
        obtain ⟨Ay, cy, ln, hln, hLen, hAll, hY, hSame⟩ := tail_facts J12.out (by omega) (by omega)
        have HL := Lib.hid hLen
        have HA := Lib.hid hAll
        have HY := Lib.hid hY
        have HS := Lib.hid hSame
        have HKY : Hid (∀ W, Below w11.heap.size w11 W → Below w11.heap.size w11 W ∧ W.cell? ⟨w1.heap.size, 0, none⟩ = some (.slice Ay ln cy)) := Lib.hid fun W hb => ⟨hb, hY W hb⟩
        clear hLen hAll hY hSame
        go_region_held3 (fun W => Below w11.heap.size w11 W ∧ W.cell? ⟨w1.heap.size, 0, none⟩ = some (.slice Ay ln cy))
          (first
            | exact HKY.out _ B22.out
            | exact HKY.out _ B21.out
            | exact HKY.out _ (Below.drew (Below.refl _ _)))
          (first
            | (go_at_call 37; refine (HL.out _ (Below.refl _ _).drew).mono ?_; rintro e w20 ⟨rfl, rfl⟩)
            | (go_at_call 39; refine (HA.out _ (Below.refl _ _).drew).mono ?_; rintro e w21 ⟨A1, c1, rfl, hP, hc1, hb⟩; have B21 := Lib.hid ((Below.refl w11.heap.size w11).drew.trans hb); have P21 := Lib.hid hP; have C1 := Lib.hid hc1; clear hP hc1 hb)
            | (go_at_call 38; refine (HS.out _ A1 c1 B21.out P21.out C1.out).mono ?_; rintro e w22 ⟨rfl, hb⟩; have B22 := Lib.hid (B21.out.trans (hb.mono B21.out.size)); clear hb))
        go_wp2_with fail
        go_roundw
        case rel => exact ⟨k + 1, _, by omega, by simp, J12.out.below B22.out⟩
        case measure => simp [intOf]; omega
      · obtain ⟨W9, hW9⟩ : ∃ x, x = w8.alloc (.cells #[.int .u64 (hi P.a), .int .u64 (lo P.a), .int .u64 (hi P.b), .int .u64 (lo P.b), .int .u64 (hi P.c), .int .u64 (lo P.c), .int .u64 (hi P.d), .int .u64 (lo P.d)] 29) := ⟨_, rfl⟩
        rw [← hW9] at J9 X6w9 X7w9 ⊢
        clear hW9 x0
        obtain ⟨v, hv⟩ : ∃ v, v = (if P ∈ s.1 then s.2 P else 0) := ⟨_, rfl⟩
        obtain ⟨b, hb⟩ : ∃ b, b = decide (P ∈ s.1) := ⟨_, rfl⟩
        have hgx := getX J9.out P
        have hgy : Hid (∀ W', Below W9.heap.size W9 W' → Calls Try.prog 36 #[.pointer (some ⟨w1.heap.size, 0, none⟩), ptV P] W' fun e w' => e = .returned (.tuple #[.int .i64 v, .bool b]) ∧ Below W'.heap.size W' w') := Lib.hid fun W' h => by
          have := getY (J9.out.below h) (by omega) P
          unfold RetGet at this
          rw [← hv, ← hb] at this
          exact this
        unfold RetGet at hgx
        rw [← hv, ← hb] at hgx
        clear hv hb
        refine hgx.mono ?_
        clear hgx
        rintro e w10 ⟨rfl, hb10⟩
        have B10 := Lib.hid hb10
        have X7 := (hb10.block _ (blk_lt X7w9.out)).trans X7w9.out
        have d0 := blk_cellQ X7 0 _ rfl
        have d1 := blk_cellQ X7 1 _ rfl
        have d2 := blk_cellQ X7 2 _ rfl
        have d3 := blk_cellQ X7 3 _ rfl
        have d4 := blk_cellQ X7 4 _ rfl
        have d5 := blk_cellQ X7 5 _ rfl
        have d6 := blk_cellQ X7 6 _ rfl
        have d7 := blk_cellQ X7 7 _ rfl
        clear hb10 X7
        unfold ptV at hgy
        go_wp2_with ((with_reducible refine (hgy.out _ B10.out).mono ?_); rintro e w11 ⟨rfl, hb11⟩; have B11 := Lib.hid (B10.out.trans (hb11.mono B10.out.size)); clear hb11)
        have J12 := Lib.hid ((J9.out.below B11.out).mono (Nat.le_succ k) (Nat.le_succ k))
        obtain ⟨Ay, cy, ln, hln, hLen, hAll, hY, hSame⟩ := tail_facts J12.out (by omega) (by omega)
        have HL := Lib.hid hLen
        have HA := Lib.hid hAll
        have HY := Lib.hid hY
        have HS := Lib.hid hSame
        have HKY : Hid (∀ W, Below w11.heap.size w11 W → Below w11.heap.size w11 W ∧ W.cell? ⟨w1.heap.size, 0, none⟩ = some (.slice Ay ln cy)) := Lib.hid fun W hb => ⟨hb, hY W hb⟩
        clear hLen hAll hY hSame
        go_region_held3 (fun W => Below w11.heap.size w11 W ∧ W.cell? ⟨w1.heap.size, 0, none⟩ = some (.slice Ay ln cy))
          (first
            | exact HKY.out _ B22.out
            | exact HKY.out _ B21.out
            | exact HKY.out _ (Below.drew (Below.refl _ _)))
          (first
            | (go_at_call 37; refine (HL.out _ (Below.refl _ _).drew).mono ?_; rintro e w20 ⟨rfl, rfl⟩)
            | (go_at_call 39; refine (HA.out _ (Below.refl _ _).drew).mono ?_; rintro e w21 ⟨A1, c1, rfl, hP, hc1, hb⟩; have B21 := Lib.hid ((Below.refl w11.heap.size w11).drew.trans hb); have P21 := Lib.hid hP; have C1 := Lib.hid hc1; clear hP hc1 hb)
            | (go_at_call 38; refine (HS.out _ A1 c1 B21.out P21.out C1.out).mono ?_; rintro e w22 ⟨rfl, hb⟩; have B22 := Lib.hid (B21.out.trans (hb.mono B21.out.size)); clear hb))
        go_wp2_with fail
        go_roundw
        case rel => exact ⟨k + 1, _, by omega, by simp, J12.out.below B22.out⟩
        case measure => simp [intOf]; omega
    · obtain rfl : k = mm := by omega
      go_wp2_with ((with_reducible refine (qb_begun _).mono ?_); rintro e w13 ⟨rfl, hb13⟩)
      go_ret
      exact ⟨rfl, HJ.out.b.trans (hb13.mono HJ.out.b.size)⟩
end Go.Proofs.Ytjdecoiciecfpaa
