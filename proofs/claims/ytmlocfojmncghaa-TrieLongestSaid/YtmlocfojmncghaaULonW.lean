/- Layer 12: the walk of TrieLongest. -/
import Derived.Test.YtmlocfojmncghaaULonP
import Derived.Test.YtmlocfojmncghaaGLow
namespace Go.Proofs.Ytmlocfojmncghaa
open Go.RowKit
set_option maxRecDepth 100000 in
set_option maxHeartbeats 8000000 in
theorem long_anyU (hP : PutE) (w : World) (x0 : Int) (A1 : Option Addr) (n1 c1 : Nat) (qs1 : List UOp) (hn1 : qs1.length = n1) (hc1 : n1 ≤ c1) (hm1 : c1 ≤ 9223372036854775807) (hok1 : ∀ q ∈ qs1, q.ok) (hr1 : OpsU w A1 qs1)
    (A2 : Option Addr) (n2 c2 : Nat) (vs2 : List Nat) (hn2 : vs2.length = n2) (hc2 : n2 ≤ c2) (hm2 : c2 ≤ 9223372036854775807) (hok2 : ∀ x ∈ vs2, x < 2 ^ 128) (hr2 : ValsU w A2 vs2) :
    Calls Try.prog 5 #[.int .i64 x0, .slice A1 n1 c1, .slice A2 n2 c2] w (RetX (.bool true) w) := by
  have HP := Lib.hid hP
  have HN1 := Lib.hid hn1
  have HOK1 := Lib.hid hok1
  have HR1 := Lib.hid hr1
  have HN2 := Lib.hid hn2
  have HOK2 := Lib.hid hok2
  have HR2 := Lib.hid hr2
  obtain ⟨m1, hmm1⟩ : ∃ m1 : Nat, m1 = min n1 24 := ⟨_, rfl⟩
  have hmin1 : min (n1 : Int) 24 = (m1 : Int) := by omega
  have hm1n : m1 ≤ n1 := by omega
  have hm124 : m1 ≤ 24 := by omega
  obtain ⟨m2, hmm2⟩ : ∃ m2 : Nat, m2 = min n2 12 := ⟨_, rfl⟩
  have hmin2 : min (n2 : Int) 12 = (m2 : Int) := by omega
  have hm2n : m2 ≤ n2 := by omega
  have hm212 : m2 ≤ 12 := by omega
  obtain ⟨b, hb⟩ : ∃ b : Nat, (b : Int) = 1 + x0 % 128 := ⟨(1 + x0 % 128).toNat, by omega⟩
  have hb1 : 1 ≤ b := by omega
  have hb8 : b ≤ 128 := by omega
  have hmask : wrap64 (1 + bits .and .i64 x0 127) = (b : Int) := by
    have h1 := i64_mask x0 7 (by decide)
    rw [show ((2 ^ 7 - 1 : Nat) : Int) = 127 from rfl, show ((2 ^ 7 : Nat) : Int) = 128 from rfl] at h1
    rw [h1, hb]
    unfold wrap64
    omega
  have hbU : bitsU (b : Int) = b := by unfold bitsU; omega
  obtain ⟨y, hy⟩ : ∃ y, y = bits .and .i64 x0 127 := ⟨_, rfl⟩
  rw [← hy] at hmask
  have HMASK := Lib.hid hmask
  have HY := Lib.hid hy
  have HBE : Hid (max 1 (min (b : Int) 128) = (b : Int)) := Lib.hid (by omega)
  clear hn1 hok1 hr1 hmm1 hn2 hok2 hr2 hmm2 hy hmask hb hP
  go_enter Try.func5, Try.ntmps5
  go_wp2_with fail
  rw [← HY.out, HMASK.out]
  refine (s_new b w).mono ?_
  rintro e w1 ⟨rfl, hb1w, hz1, hS1⟩
  rw [hbU] at hS1
  have J0 := Lib.hid (JU.start hS1 hb1w (Nat.le_refl _))
  clear hb1w hz1 hS1
  go_wp2_with fail
  refine (re_New b w1).mono ?_
  rintro e w2 ⟨rfl, hw2⟩
  rw [HBE.out] at hw2
  rw [← hw2] at J0
  clear hw2
  go_wp2_with fail
  go_loopw [38] (fun i W => ∃ (k : Nat) (m : Pth → Option Int) (L : List PE) (F : Nat → Prop), k ≤ m1 ∧ i = .int .i64 k ∧ JU w W w.heap.size w1.heap.size b k m L F ∧ RelE b m L ∧ L.length ≤ k) (fun i _ => m1 - (intOf i).toNat)
  case atStart => exact ⟨0, _, [], _, Nat.zero_le _, rfl, J0.out, RelE.nil b, Nat.le_refl _⟩
  case round =>
    obtain ⟨k, m, L, F, hk, rfl, hJ, hE, hL⟩ := hrel
    have HJ := Lib.hid hJ
    have HE := Lib.hid hE
    clear hJ hE
    by_cases hlt : k < m1
    · have hk1 : (k : Int) < (m1 : Int) := by omega
      have hk2 : (k : Int) < (c1 : Int) := by omega
      have hk0 : 0 ≤ (k : Int) := by omega
      obtain ⟨q, hq⟩ : ∃ q, qs1[k]? = some q := ⟨_, List.getElem?_eq_getElem (by rw [HN1.out]; omega)⟩
      have HQK := Lib.hid (HOK1.out q (List.mem_of_getElem? hq))
      obtain ⟨g, o, hA, hg2, hcell⟩ := (HR1.out.below HJ.out.bl).resolve_left (fun e => by rw [e] at hq; simp at hq)
      subst hA
      have hc := hcell k q hq
      have p0 : wr.cell? ⟨g, o + k * 6, none⟩ = some (.int .i64 q.kind) := hc 0 (by omega)
      have p1 : wr.cell? ⟨g, o + k * 6 + 1, none⟩ = some (.int .u8 q.raw) := hc 1 (by omega)
      have p2 : wr.cell? ⟨g, o + k * 6 + 2, none⟩ = some (.int .u64 (hi q.v)) := hc 2 (by omega)
      have p3 : wr.cell? ⟨g, o + k * 6 + 3, none⟩ = some (.int .u64 (lo q.v)) := hc 3 (by omega)
      have p4 : wr.cell? ⟨g, o + k * 6 + 4, none⟩ = some (.int .i64 q.n) := hc 4 (by omega)
      have p5 : wr.cell? ⟨g, o + k * 6 + 5, none⟩ = some (.int .i64 q.id) := hc 5 (by omega)
      clear hc hcell hq
      have X7 : Hid ((wr.alloc (.cells #[.int .i64 q.kind, .int .u8 q.raw, .int .u64 (hi q.v), .int .u64 (lo q.v), .int .i64 q.n, .int .i64 q.id] 59)).heap[wr.heap.size]? = some (.cells #[.int .i64 q.kind, .int .u8 q.raw, .int .u64 (hi q.v), .int .u64 (lo q.v), .int .i64 q.n, .int .i64 q.id] 59 (0, 0))) := Lib.hid (heap_alloc_new wr _)
      have C7 : Hid (Below wr.heap.size wr (wr.alloc (.cells #[.int .i64 q.kind, .int .u8 q.raw, .int .u64 (hi q.v), .int .u64 (lo q.v), .int .i64 q.n, .int .i64 q.id] 59))) := Lib.hid ((Below.refl _ wr).alloc (Nat.le_refl _) _)
      go_wp2_with fail
      refine (uo_prefix q HQK.out b hb1 hb8 _).mono ?_
      rintro e w8 ⟨rfl, h8⟩
      have X8 : Hid (w8.heap[wr.heap.size]? = some (.cells #[.int .i64 q.kind, .int .u8 q.raw, .int .u64 (hi q.v), .int .u64 (lo q.v), .int .i64 q.n, .int .i64 q.id] 59 (0, 0))) := Lib.hid ((h8.block _ (by simp)).trans X7.out)
      have C8 : Hid (Below wr.heap.size wr w8) := Lib.hid (C7.out.trans (h8.mono C7.out.size))
      have S8 : Hid (wr.heap.size < w8.heap.size) := Lib.hid (heap_ltU X8.out)
      have C9 : Hid (Below wr.heap.size wr (w8.alloc (.cells #[.int .u64 (hi (pfV q b)), .int .u64 (lo (pfV q b))] 29))) := Lib.hid (C8.out.alloc C8.out.size _)
      have X9 : Hid ((w8.alloc (.cells #[.int .u64 (hi (pfV q b)), .int .u64 (lo (pfV q b))] 29)).heap[wr.heap.size]? = some (.cells #[.int .i64 q.kind, .int .u8 q.raw, .int .u64 (hi q.v), .int .u64 (lo q.v), .int .i64 q.n, .int .i64 q.id] 59 (0, 0))) := Lib.hid ((Below.heap_alloc _ _ _ S8.out).trans X8.out)
      have Z9 : Hid ((w8.alloc (.cells #[.int .u64 (hi (pfV q b)), .int .u64 (lo (pfV q b))] 29)).heap[w8.heap.size]? = some (.cells #[.int .u64 (hi (pfV q b)), .int .u64 (lo (pfV q b))] 29 (0, 0))) := Lib.hid (heap_alloc_new _ _)
      have x95 : (w8.alloc (.cells #[.int .u64 (hi (pfV q b)), .int .u64 (lo (pfV q b))] 29)).cell? ⟨wr.heap.size, 5, none⟩ = some (.int .i64 q.id) := blk_cell X9.out 5 _ rfl
      clear h8
      go_wp2_with fail
      clear x95
      obtain ⟨w9, hw9⟩ : ∃ x, x = w8.alloc (.cells #[.int .u64 (hi (pfV q b)), .int .u64 (lo (pfV q b))] 29) := ⟨_, rfl⟩
      rw [← hw9] at C9 X9 Z9 ⊢
      clear hw9
      have J9 := Lib.hid (HJ.out.below C9.out)
      refine (s_put J9.out.s (by omega) hb8 (pfV q b) (pfV_128 q b HQK.out) (pfN q b) q.id).mono ?_
      rintro e w10 ⟨rfl, hL10⟩
      obtain ⟨F', hJ10, -, hfr⟩ := J9.out.left hL10
      have hnF : ∀ j, wr.heap.size ≤ j → ¬ F j := fun j hj h => by have := HJ.out.s.lt j h; omega
      have hx10 := (hfr.block _ (heap_ltU X9.out) (hnF _ (Nat.le_refl _))).trans X9.out
      have hz10 := (hfr.block _ (heap_ltU Z9.out) (hnF _ (Nat.le_of_lt S8.out))).trans Z9.out
      have J10 := Lib.hid hJ10
      have x5 := blk_cell hx10 5 _ rfl
      have z0 := blk_cell hz10 0 _ rfl
      have z1 := blk_cell hz10 1 _ rfl
      clear hL10 hJ10 hfr hnF hx10 hz10
      go_wp2_with fail
      refine (ju_putE HP.out J10.out hb8 (by omega) (pfV q b) (pfV_128 q b HQK.out) (pfN q b) q.id).mono ?_
      rintro e w11 ⟨rfl, hJ11, -⟩
      have J11 := Lib.hid hJ11
      have hl11 := putLE_len b (pfV q b) (pfN q b) q.id L
      clear hJ11
      go_wp2_with fail
      go_roundw
      case rel => exact ⟨k + 1, _, _, F', by omega, by simp, J11.out, HE.out.put hb8 _ (pfV_128 q b HQK.out) _ _, by omega⟩
      case measure => simp [intOf]; omega
    · obtain rfl : m1 = k := by omega
      go_wp2_with fail
      obtain ⟨wE, hwE⟩ : ∃ y : World, y = wr := ⟨_, rfl⟩
      subst hwE
      go_loopw [67] (fun i W => ∃ (j : Nat), j ≤ m2 ∧ i = .int .i64 (j : Int) ∧ JU w W w.heap.size w1.heap.size b m1 m L F) (fun i _ => m2 - (intOf i).toNat)
      case atStart => exact ⟨0, Nat.zero_le _, rfl, HJ.out⟩
      case round =>
        obtain ⟨j, hj, rfl, hJ2⟩ := hrel
        have HJ2 := Lib.hid hJ2
        clear hJ2
        by_cases hlt2 : j < m2
        · have hj1 : (j : Int) < (m2 : Int) := by omega
          have hj2 : (j : Int) < (c2 : Int) := by omega
          have hj0 : 0 ≤ (j : Int) := by omega
          obtain ⟨v, hv⟩ : ∃ v, vs2[j]? = some v := ⟨_, List.getElem?_eq_getElem (by rw [HN2.out]; omega)⟩
          have hv8 := HOK2.out v (List.mem_of_getElem? hv)
          obtain ⟨g, o, hA, hg2, hcell⟩ := (HR2.out.below HJ2.out.bl).resolve_left (fun e => by rw [e] at hv; simp at hv)
          subst hA
          obtain ⟨p0, p1⟩ := hcell j v hv
          clear hcell hv
          have hl8 : lowB v b < 2 ^ 128 := Nat.lt_of_lt_of_le (lowB_ltU v b hb8) (Nat.pow_le_pow_right (by decide) hb8)
          have X7 : Hid ((wr.alloc (.cells #[.int .u64 (hi v), .int .u64 (lo v)] 29)).heap[wr.heap.size]? = some (.cells #[.int .u64 (hi v), .int .u64 (lo v)] 29 (0, 0))) := Lib.hid (heap_alloc_new wr _)
          have C7 : Hid (Below wr.heap.size wr (wr.alloc (.cells #[.int .u64 (hi v), .int .u64 (lo v)] 29))) := Lib.hid ((Below.refl _ wr).alloc (Nat.le_refl _) _)
          go_wp2_with fail
          refine (cs_low v b hv8 (by omega) _).mono ?_
          rintro e w8 ⟨rfl, h8⟩
          have X8 : Hid (w8.heap[wr.heap.size]? = some (.cells #[.int .u64 (hi v), .int .u64 (lo v)] 29 (0, 0))) := Lib.hid ((h8.block _ (by simp)).trans X7.out)
          have C8 : Hid (Below wr.heap.size wr w8) := Lib.hid (C7.out.trans (h8.mono C7.out.size))
          have C9 : Hid (Below wr.heap.size wr (w8.alloc (.cells #[.int .u64 (hi (lowB v b)), .int .u64 (lo (lowB v b))] 29))) := Lib.hid (C8.out.alloc C8.out.size _)
          have X9 : Hid ((w8.alloc (.cells #[.int .u64 (hi (lowB v b)), .int .u64 (lo (lowB v b))] 29)).heap[wr.heap.size]? = some (.cells #[.int .u64 (hi v), .int .u64 (lo v)] 29 (0, 0))) := Lib.hid ((Below.heap_alloc _ _ _ (heap_ltU X8.out)).trans X8.out)
          have Z9 : Hid ((w8.alloc (.cells #[.int .u64 (hi (lowB v b)), .int .u64 (lo (lowB v b))] 29)).heap[w8.heap.size]? = some (.cells #[.int .u64 (hi (lowB v b)), .int .u64 (lo (lowB v b))] 29 (0, 0))) := Lib.hid (heap_alloc_new _ _)
          have S8 : Hid (wr.heap.size < w8.heap.size) := Lib.hid (heap_ltU X8.out)
          obtain ⟨A, cap, hRE, hRA⟩ := (HJ2.out.below C9.out).r
          have HRE := Lib.hid hRE
          have cy := hRE.c
          obtain ⟨w9, hw9⟩ : ∃ x, x = w8.alloc (.cells #[.int .u64 (hi (lowB v b)), .int .u64 (lo (lowB v b))] 29) := ⟨_, rfl⟩
          have HW9 := Lib.hid hw9
          have J9 := Lib.hid (HJ2.out.below C9.out)
          clear h8 hRE hRA hw9
          obtain ⟨wJ, hwJ⟩ : ∃ y : World, y = wr := ⟨_, rfl⟩
          subst hwJ
          by_cases hL0 : 0 < L.length
          · have hL0i : 0 < (L.length : Int) := by omega
            have hL0d : decide (0 < (L.length : Int)) = true := decide_eq_true hL0i
            obtain ⟨d, hd⟩ : ∃ d, d = j % L.length := ⟨_, rfl⟩
            have hdl : d < L.length := by rw [hd]; exact Nat.mod_lt _ hL0
            obtain ⟨e, he⟩ : ∃ e, L[d]? = some e := ⟨_, List.getElem?_eq_getElem hdl⟩
            have he8 := (HRE.out.ok e (List.mem_of_getElem? he)).1
            obtain ⟨gy, hgy, hgl, hrow⟩ := HRE.out.row.resolve_left (fun h => by rw [h] at he; simp at he)
            subst hgy
            have HROW : Hid (∀ W, Below w9.heap.size w9 W → W.cell? ⟨w1.heap.size, 1, none⟩ = some (.slice (some ⟨gy, 0, none⟩) L.length cap) ∧ W.cell? ⟨gy, d * 4, none⟩ = some (.int .u64 (hi e.v)) ∧ W.cell? ⟨gy, d * 4 + 1, none⟩ = some (.int .u64 (lo e.v))) := Lib.hid fun W hb => by
              have h1 := HRE.out
              rw [← HW9.out] at h1
              have h2 := h1.below hb
              obtain ⟨g', e1, _, h3⟩ := h2.row.resolve_left (fun h => by rw [h] at he; simp at he)
              injection e1 with e1
              injection e1 with e1
              subst e1
              exact ⟨h2.c, h3 d e he 0 (by omega), h3 d e he 1 (by omega)⟩
            have hroom := HRE.out.room
            have d0 : 0 ≤ (d : Int) := by omega
            have d1 : (d : Int) < (L.length : Int) := by omega
            have d2 : (d : Int) < (cap : Int) := by omega
            have hrem : (j : Int).tmod (L.length : Int) = (d : Int) := by rw [hd, Int.tmod_eq_emod_of_nonneg (by omega)]; omega
            have hne : ¬ L = [] := fun h => by rw [h] at hL0; simp at hL0
            obtain ⟨lj, hlj⟩ : ∃ lj, lj = lowB v (j : Int) := ⟨_, rfl⟩
            have hlj8 : lj < 2 ^ 128 := by rw [hlj]; unfold lowB; exact Nat.lt_of_le_of_lt (Nat.mod_le _ _) hv8
            have KLJ : Hid (∀ W, Calls Try.prog 11 #[.agg #[.int .u64 (hi v), .int .u64 (lo v)], .int .i64 j] W (RetV lj W)) := Lib.hid fun W => by rw [hlj]; exact cs_low v j hv8 (by omega) W
            have KX : Hid (∀ W, Calls Try.prog 33 #[.agg #[.int .u64 (hi e.v), .int .u64 (lo e.v)], .agg #[.int .u64 (hi lj), .int .u64 (lo lj)]] W (RetV (e.v ^^^ lj) W)) := Lib.hid fun W => rxor_any e.v lj he8 hlj8 W
            obtain ⟨xx, hxx⟩ : ∃ xx, xx = e.v ^^^ lj := ⟨_, rfl⟩
            have hxx8 : xx < 2 ^ 128 := by rw [hxx]; exact Nat.xor_lt_two_pow he8 hlj8
            rw [← hxx] at KX
            have X9' := X9
            have Z9' := Z9
            rw [← HW9.out] at X9' Z9'
            have HKD : Hid (∀ w', Below w9.heap.size w9 w' → Below w9.heap.size w9 w' ∧ w'.cell? ⟨wJ.heap.size, 0, none⟩ = some (.int .u64 (hi v)) ∧ w'.cell? ⟨wJ.heap.size, 1, none⟩ = some (.int .u64 (lo v)) ∧ w'.cell? ⟨w8.heap.size, 0, none⟩ = some (.int .u64 (hi (lowB v b))) ∧ w'.cell? ⟨w8.heap.size, 1, none⟩ = some (.int .u64 (lo (lowB v b))) ∧ w'.frozen? ⟨w8.heap.size, 0, none⟩ = false ∧ w'.frozen? ⟨w8.heap.size, 1, none⟩ = false ∧ w'.cell? ⟨w1.heap.size, 1, none⟩ = some (.slice (some ⟨gy, 0, none⟩) L.length cap) ∧ w'.cell? ⟨gy, d * 4, none⟩ = some (.int .u64 (hi e.v)) ∧ w'.cell? ⟨gy, d * 4 + 1, none⟩ = some (.int .u64 (lo e.v))) := Lib.hid fun w' hb => by
              have q0 := (hb.block _ (heap_ltU X9'.out)).trans X9'.out
              have q1 := (hb.block _ (heap_ltU Z9'.out)).trans Z9'.out
              exact ⟨hb, blk_cell q0 0 _ rfl, blk_cell q0 1 _ rfl, blk_cell q1 0 _ rfl, blk_cell q1 1 _ rfl, by unfold World.frozen?; rw [q1]; rfl, by unfold World.frozen?; rw [q1]; rfl, HROW.out w' hb⟩
            clear hlj hxx he hd hrow hgl p0 p1
            go_wp2_with fail
            rw [← HW9.out]
            clear cy
            refine wp_region_lastH (N := 18) (S := fun w' => Below w9.heap.size w9 w' ∧ w'.cell? ⟨wJ.heap.size, 0, none⟩ = some (.int .u64 (hi v)) ∧ w'.cell? ⟨wJ.heap.size, 1, none⟩ = some (.int .u64 (lo v)) ∧ w'.cell? ⟨w8.heap.size, 0, none⟩ = some (.int .u64 (hi (lowB v b))) ∧ w'.cell? ⟨w8.heap.size, 1, none⟩ = some (.int .u64 (lo (lowB v b))) ∧ w'.frozen? ⟨w8.heap.size, 0, none⟩ = false ∧ w'.frozen? ⟨w8.heap.size, 1, none⟩ = false ∧ w'.cell? ⟨w1.heap.size, 1, none⟩ = some (.slice (some ⟨gy, 0, none⟩) L.length cap) ∧ w'.cell? ⟨gy, d * 4, none⟩ = some (.int .u64 (hi e.v)) ∧ w'.cell? ⟨gy, d * 4 + 1, none⟩ = some (.int .u64 (lo e.v))) (by kernel_rfl) (by kernel_rfl) (HKD.out _ (Below.drew (Below.refl _ _))) (fun hHeld => ?_)
            simp only [List.pop_toArray, List.dropLast_cons_cons, List.dropLast_singleton]
            refine wpAnyH_take (i := 0) (oi := _) (v := ?_) rfl (by kernel_rfl) (by kernel_rfl) (by kernel_rfl) (fun _ _ _ h => h) (Or.inl ⟨by rfl, ?_⟩) hHeld ?_
            rotate_left
            · (intro w1 hSw; (try dsimp only at hSw); go_simp; all_goals with_reducible rfl)
            (try go_frame)
            refine wpAnyH_take (i := 1) (oi := _) (v := ?_) rfl (by kernel_rfl) (by kernel_rfl) (by kernel_rfl) (fun _ _ _ h => h) (Or.inl ⟨by rfl, ?_⟩) hHeld ?_
            rotate_left
            · (intro w1 hSw; (try dsimp only at hSw); go_simp; all_goals with_reducible rfl)
            (try go_frame)
            refine wpAnyH_take (i := 2) (oi := _) (v := ?_) rfl (by kernel_rfl) (by kernel_rfl) (by kernel_rfl) (fun _ _ _ h => h) (Or.inl ⟨by rfl, ?_⟩) hHeld ?_
            rotate_left
            · (intro w1 hSw; (try dsimp only at hSw); go_simp; all_goals with_reducible rfl)
            (try go_frame)
            refine wpAnyH_take (i := 3) (oi := _) (v := ?_) rfl (by kernel_rfl) (by kernel_rfl) (by kernel_rfl) (fun _ _ _ h => h) (Or.inl ⟨by rfl, ?_⟩) hHeld ?_
            rotate_left
            · (intro w1 hSw; (try dsimp only at hSw); go_simp; all_goals with_reducible rfl)
            (try go_frame)
            refine wpAnyH_take (i := 4) (oi := _) (v := ?_) rfl (by kernel_rfl) (by kernel_rfl) (by kernel_rfl) (fun _ _ _ h => h) (Or.inl ⟨by rfl, ?_⟩) hHeld ?_
            rotate_left
            · (intro w1 hSw; (try dsimp only at hSw); go_simp; all_goals with_reducible rfl)
            (try go_frame)
            refine wpAnyH_take (i := 5) (oi := _) (v := ?_) rfl (by kernel_rfl) (by kernel_rfl) (by kernel_rfl) (fun _ _ _ h => h) (Or.inl ⟨by rfl, ?_⟩) hHeld ?_
            rotate_left
            · (intro w1 hSw; (try dsimp only at hSw); go_simp; all_goals with_reducible rfl)
            (try go_frame)
            refine wpAnyH_take (i := 6) (oi := _) (v := ?_) rfl (by kernel_rfl) (by kernel_rfl) (by kernel_rfl) (fun _ _ _ h => h) (Or.inl ⟨by rfl, ?_⟩) hHeld ?_
            rotate_left
            · (intro w1 hSw; (try dsimp only at hSw); go_simp; all_goals with_reducible rfl)
            (try go_frame)
            refine wpAnyH_take (i := 7) (oi := _) (v := ?_) rfl (by kernel_rfl) (by kernel_rfl) (by kernel_rfl) (fun _ _ _ h => h) (Or.inl ⟨by rfl, ?_⟩) hHeld ?_
            rotate_left
            · (intro w1 hSw; (try dsimp only at hSw); go_simp; all_goals with_reducible rfl)
            (try go_frame)
            refine wpAnyH_take (i := 8) (oi := _) (v := ?_) rfl (by kernel_rfl) (by kernel_rfl) (by kernel_rfl) (fun _ _ _ h => h) (Or.inl ⟨by rfl, ?_⟩) hHeld ?_
            rotate_left
            · (intro w1 hSw; (try dsimp only at hSw); go_simp; all_goals with_reducible rfl)
            (try go_frame)
            refine wpAnyH_take (i := 9) (oi := _) (v := ?_) rfl (by kernel_rfl) (by kernel_rfl) (by kernel_rfl) (fun _ _ _ h => h) (Or.inl ⟨by rfl, ?_⟩) hHeld ?_
            rotate_left
            · (intro w1 hSw; (try dsimp only at hSw); go_simp; all_goals with_reducible rfl)
            (try go_frame)
            refine wpAnyH_take (i := 10) (oi := _) (v := ?_) rfl (by kernel_rfl) (by kernel_rfl) (by kernel_rfl) (fun _ _ _ h => h) (Or.inl ⟨by rfl, ?_⟩) hHeld ?_
            rotate_left
            · (intro w1 hSw; (try dsimp only at hSw); go_simp; all_goals with_reducible rfl)
            (try go_frame)
            refine wpAnyH_take (i := 11) (oi := _) (v := ?_) rfl (by kernel_rfl) (by kernel_rfl) (by kernel_rfl) (fun _ _ _ h => h) (Or.inl ⟨by rfl, ?_⟩) hHeld ?_
            rotate_left
            · (intro w1 hSw; (try dsimp only at hSw); go_simp; all_goals with_reducible rfl)
            (try go_frame)
            refine wpAnyH_take (i := 12) (oi := _) (v := ?_) rfl (by kernel_rfl) (by kernel_rfl) (by kernel_rfl) (fun _ _ _ h => h) (Or.inl ⟨by rfl, ?_⟩) hHeld ?_
            rotate_left
            · (intro w1 hSw; (try dsimp only at hSw); go_simp; all_goals with_reducible rfl)
            (try go_frame)
            refine wpAnyH_take (i := 13) (oi := _) (v := ?_) rfl (by kernel_rfl) (by kernel_rfl) (by kernel_rfl) (fun _ _ _ h => h) (Or.inl ⟨by rfl, ?_⟩) hHeld ?_
            rotate_left
            · (intro w1 hSw; (try dsimp only at hSw); go_simp; all_goals with_reducible rfl)
            (try go_frame)
            refine wpAnyH_take (i := 14) (oi := _) (v := ?_) rfl (by kernel_rfl) (by kernel_rfl) (by kernel_rfl) (fun _ _ _ h => h) (Or.inl ⟨by rfl, ?_⟩) hHeld ?_
            rotate_left
            · (intro w1 hSw; (try dsimp only at hSw); go_simp; all_goals with_reducible rfl)
            (try go_frame)
            refine wpAnyH_take (i := 15) (oi := _) (v := ?_) rfl (by kernel_rfl) (by kernel_rfl) (by kernel_rfl) (fun _ _ _ h => h) (Or.inl ⟨by rfl, ?_⟩) hHeld ?_
            rotate_left
            · (intro w1 hSw; (try dsimp only at hSw); go_simp; all_goals with_reducible rfl)
            (try go_frame)
            refine wpAnyH_ready (rs := [16]) (by kernel_rfl) (by simp) ?_
            refine AllReadyH.cons (o := _) rfl (fun K hK => ?_) AllReadyH.nil
            go_simp
            go_wp2_with (go_at_call 11; (with_reducible refine (KLJ.out _).mono ?_); rintro en v1 ⟨rfl, hv1⟩)
            refine hK.out _ _ ?_ (fun hHeld2 => ?_)
            · exact HKD.out _ (below_call (And.left hHeld) (by assumption))
            clear hK K hHeld
            have hHeld := hHeld2
            clear hHeld2
            (try go_frame)
            refine wpAnyH_ready (rs := [17]) (by kernel_rfl) (by simp) ?_
            refine AllReadyH.cons (o := _) rfl (fun K hK => ?_) AllReadyH.nil
            go_simp
            go_wp2_with (go_at_call 33; (with_reducible refine (KX.out _).mono ?_); rintro en v2 ⟨rfl, hv2⟩; have B2 := Lib.hid (below_call (And.left hHeld) hv2))
            refine hK.out _ _ ?_ (fun hHeld2 => ?_)
            · exact HKD.out _ (below_call (And.left hHeld) (by assumption))
            clear hK K hHeld
            have hHeld := hHeld2
            clear hHeld2
            (try go_frame)
            refine wpAnyH_done (by kernel_rfl) ?_ _
            unfold QL
            refine wpOp_step rfl (fun K hK => ?_)
            obtain ⟨-, s0, s1, s2, s3, s4, s5, s6, s7, s8⟩ := hHeld
            go_simp
            refine hK _ _ ?_
            clear hK K s0 s1 s2 s3 s4 s5 s6 s7 s8
            have ZS0 := (B2.out.block _ (heap_ltU Z9'.out)).trans Z9'.out
            have ZS1 := blk_set (blk_set ZS0 0 (.int .u64 (hi xx))) 1 (.int .u64 (lo xx))
            obtain ⟨wS, hwS⟩ : ∃ x, x = (v2.setCell ⟨w8.heap.size, 0, none⟩ (.int .u64 (hi xx))).setCell ⟨w8.heap.size, 1, none⟩ (.int .u64 (lo xx)) := ⟨_, rfl⟩
            rw [← hwS] at ZS1 ⊢
            have ZS : Hid (wS.heap[w8.heap.size]? = some (.cells #[.int .u64 (hi xx), .int .u64 (lo xx)] 29 (0, 0))) := Lib.hid ZS1
            have CS : Hid (Below wJ.heap.size wJ wS) := Lib.hid (by
              have h1 : Below wJ.heap.size wJ v2 := by
                have h2 := C9.out
                rw [← HW9.out] at h2
                exact h2.trans (B2.out.mono h2.size)
              rw [hwS]
              exact Below.setCell (Below.setCell h1 (Nat.le_of_lt S8.out) _) (Nat.le_of_lt S8.out) _)
            have XS : Hid (wS.heap[wJ.heap.size]? = some (.cells #[.int .u64 (hi v), .int .u64 (lo v)] 29 (0, 0))) := Lib.hid (by
              have h1 : Below (wJ.heap.size + 1) w9 wS := by
                have h2 := B2.out.mono (heap_ltU X9'.out)
                have h4 : wJ.heap.size + 1 ≤ w8.heap.size := S8.out
                have h3 : Below (wJ.heap.size + 1) w9 (v2.setCell ⟨w8.heap.size, 0, none⟩ (.int .u64 (hi xx))) := Below.setCell h2 (by show wJ.heap.size + 1 ≤ w8.heap.size; exact h4) _
                rw [hwS]
                exact Below.setCell h3 (by show wJ.heap.size + 1 ≤ w8.heap.size; exact h4) _
              exact (h1.block _ (Nat.lt_succ_self _)).trans X9'.out)
            have JS := Lib.hid (HJ2.out.below CS.out)
            clear ZS0 ZS1 hwS
            go_wp2_with fail
            have HKS : Hid (∀ w', Below wS.heap.size wS w' → Below wS.heap.size wS w' ∧ w'.cell? ⟨wJ.heap.size, 0, none⟩ = some (.int .u64 (hi v)) ∧ w'.cell? ⟨wJ.heap.size, 1, none⟩ = some (.int .u64 (lo v)) ∧ w'.cell? ⟨w8.heap.size, 0, none⟩ = some (.int .u64 (hi xx)) ∧ w'.cell? ⟨w8.heap.size, 1, none⟩ = some (.int .u64 (lo xx))) := Lib.hid fun w' hb => by
              have q0 := (hb.block _ (heap_ltU XS.out)).trans XS.out
              have q1 := (hb.block _ (heap_ltU ZS.out)).trans ZS.out
              exact ⟨hb, blk_cell q0 0 _ rfl, blk_cell q0 1 _ rfl, blk_cell q1 0 _ rfl, blk_cell q1 1 _ rfl⟩
            have KLB : Hid (∀ W, Calls Try.prog 11 #[.agg #[.int .u64 (hi v), .int .u64 (lo v)], .int .i64 b] W (RetV (lowB v b) W)) := Lib.hid fun W => cs_low v b hv8 (by omega) W
            refine wp_region_noPanic ?_
            refine wp_region_held_drew (S := fun w' => Below wS.heap.size wS w' ∧ w'.cell? ⟨wJ.heap.size, 0, none⟩ = some (.int .u64 (hi v)) ∧ w'.cell? ⟨wJ.heap.size, 1, none⟩ = some (.int .u64 (lo v)) ∧ w'.cell? ⟨w8.heap.size, 0, none⟩ = some (.int .u64 (hi xx)) ∧ w'.cell? ⟨w8.heap.size, 1, none⟩ = some (.int .u64 (lo xx))) (by kernel_rfl) (HKS.out _ (Below.drew (Below.refl _ _))) (fun hHeld => ?_)
            refine wpAnyH_take (i := 0) (oi := ({ dst := some 99, op := Op.load 29 (Operand.tmp 15), type := 29, pos := "law.go:99", after := #[], guard := none } : Oper)) (v := ?_) rfl (by kernel_rfl) (by kernel_rfl) (by kernel_rfl) (fun _ _ _ h => h) (Or.inl ⟨by rfl, ?_⟩) hHeld ?_
            rotate_left
            · (intro w1 hSw; (try dsimp only at hSw); go_simp; all_goals with_reducible rfl)
            (try go_frame)
            refine wpAnyH_take (i := 1) (oi := ({ dst := some 100, op := Op.load 29 (Operand.tmp 16), type := 29, pos := "law.go:99", after := #[], guard := none } : Oper)) (v := ?_) rfl (by kernel_rfl) (by kernel_rfl) (by kernel_rfl) (fun _ _ _ h => h) (Or.inl ⟨by rfl, ?_⟩) hHeld ?_
            rotate_left
            · (intro w1 hSw; (try dsimp only at hSw); go_simp; all_goals with_reducible rfl)
            (try go_frame)
            refine wpAnyH_take (i := 2) (oi := ({ dst := some 101, op := Op.load 29 (Operand.tmp 15), type := 29, pos := "law.go:99", after := #[], guard := none } : Oper)) (v := ?_) rfl (by kernel_rfl) (by kernel_rfl) (by kernel_rfl) (fun _ _ _ h => h) (Or.inl ⟨by rfl, ?_⟩) hHeld ?_
            rotate_left
            · (intro w1 hSw; (try dsimp only at hSw); go_simp; all_goals with_reducible rfl)
            (try go_frame)
            refine wpAnyH_take (i := 3) (oi := ({ dst := some 102, op := Op.move (Operand.tmp 7), type := 3, pos := "law.go:99", after := #[], guard := none } : Oper)) (v := ?_) rfl (by kernel_rfl) (by kernel_rfl) (by kernel_rfl) (fun _ _ _ h => h) (Or.inl ⟨by rfl, ?_⟩) hHeld ?_
            rotate_left
            · (intro w1 hSw; (try dsimp only at hSw); go_simp; all_goals with_reducible rfl)
            (try go_frame)
            refine wpAnyH_take (i := 7) (oi := ({ dst := some 106, op := Op.move (Operand.const (Value.int IntKind.i64 0)), type := 3, pos := "law.go:99", after := #[], guard := none } : Oper)) (v := ?_) rfl (by kernel_rfl) (by kernel_rfl) (by kernel_rfl) (fun _ _ _ h => h) (Or.inl ⟨by rfl, ?_⟩) hHeld ?_
            rotate_left
            · (intro w1 hSw; (try dsimp only at hSw); go_simp; all_goals with_reducible rfl)
            (try go_frame)
            refine wpAnyH_ready (rs := [4]) (by kernel_rfl) (by simp) ?_
            refine AllReadyH.cons (o := ({ dst := some 103, op := Op.call { callee := Callee.value (Operand.func 11), args := #[Operand.tmp 101, Operand.tmp 102], argTypes := #[29, 3] }, type := 29, pos := "law.go:99", after := #[{ on := 2, ground := Ground.data }, { on := 3, ground := Ground.data }], guard := none } : Oper)) rfl (fun K hK => ?_) AllReadyH.nil
            go_simp
            go_wp2_with (go_at_call 11; (with_reducible refine (KLB.out _).mono ?_); rintro en v1 ⟨rfl, hv1⟩; have B1 := Lib.hid (below_call (And.left hHeld) hv1))
            refine hK.out _ _ ?_ (fun hHeld2 => ?_)
            · exact HKS.out _ (below_call (And.left hHeld) (by assumption))
            clear hK K hHeld
            have hHeld := hHeld2
            clear hHeld2
            (try go_frame)
            refine wpAnyH_ready (rs := [5]) (by kernel_rfl) (by simp) ?_
            refine AllReadyH.cons (o := ({ dst := some 104, op := Op.buildSlice 24 3 #[(0, Operand.tmp 99), (1, Operand.tmp 100), (2, Operand.tmp 103)], type := 24, pos := "law.go:99", after := #[{ on := 0, ground := Ground.data }, { on := 1, ground := Ground.data }, { on := 4, ground := Ground.data }], guard := none } : Oper)) rfl (fun K hK => ?_) AllReadyH.nil
            go_simp
            refine hK.out _ _ ?_ (fun hHeld2 => ?_)
            · exact HKS.out _ (below_alloc B1.out _)
            clear hK K hHeld
            have hHeld := hHeld2
            clear hHeld2
            (try go_frame)
            refine wpAnyH_take (i := 6) (oi := ({ dst := some 105, op := Op.call { callee := Callee.builtin Builtin.len, args := #[Operand.tmp 104], argTypes := #[24] }, type := 3, pos := "law.go:99", after := #[{ on := 5, ground := Ground.data }], guard := none } : Oper)) (v := ?_) rfl (by kernel_rfl) (by kernel_rfl) (by kernel_rfl) (fun _ _ _ h => h) (Or.inl ⟨by rfl, ?_⟩) hHeld ?_
            rotate_left
            · (intro w1 hSw; (try dsimp only at hSw); go_simp; all_goals with_reducible rfl)
            (try go_frame)
            refine wpAnyH_done (by kernel_rfl) ?_ _
            refine NoPanic.normal ?_
            (try go_frame)
            obtain ⟨wT, hwT⟩ : ∃ x, x = v1.alloc (.cells #[.int .u64 (hi v), .int .u64 (lo v), .int .u64 (hi xx), .int .u64 (lo xx), .int .u64 (hi (lowB v b)), .int .u64 (lo (lowB v b))] 29) := ⟨_, rfl⟩
            have GT : Hid (wT.heap[v1.heap.size]? = some (.cells #[.int .u64 (hi v), .int .u64 (lo v), .int .u64 (hi xx), .int .u64 (lo xx), .int .u64 (hi (lowB v b)), .int .u64 (lo (lowB v b))] 29 (0, 0))) := Lib.hid (by rw [hwT]; exact heap_alloc_new _ _)
            have JT : Hid (JU w wT w.heap.size w1.heap.size b m1 m L F) := Lib.hid (by rw [hwT]; exact JS.out.below (below_alloc B1.out _))
            rw [← hwT]
            clear hwT
            go_wp2_with fail
            go_loopw [106] (fun i W => ∃ t : Nat, t ≤ 3 ∧ i = .int .i64 t ∧ Below wT.heap.size wT W) (fun i _ => 3 - (intOf i).toNat)
            case atStart => exact ⟨0, by omega, rfl, Below.refl _ _⟩
            case round =>
              obtain ⟨t, ht, rfl, hbT⟩ := hrel
              have HBT := Lib.hid hbT
              have JR := Lib.hid (JT.out.below hbT)
              clear hbT
              by_cases ht3 : t < 3
              · have t1 : (t : Int) < 3 := by omega
                have t0 : 0 ≤ (t : Int) := by omega
                have hu : ∃ u : Nat, u < 2 ^ 128 ∧ wr.cell? ⟨v1.heap.size, t * 2, none⟩ = some (.int .u64 (hi u)) ∧ wr.cell? ⟨v1.heap.size, t * 2 + 1, none⟩ = some (.int .u64 (lo u)) := by
                  have q := (HBT.out.block _ (heap_ltU GT.out)).trans GT.out
                  rcases (by omega : t = 0 ∨ t = 1 ∨ t = 2) with e | e | e <;> rw [e]
                  · exact ⟨v, hv8, blk_cell q 0 _ rfl, blk_cell q 1 _ rfl⟩
                  · exact ⟨xx, hxx8, blk_cell q 2 _ rfl, blk_cell q 3 _ rfl⟩
                  · exact ⟨lowB v b, hl8, blk_cell q 4 _ rfl, blk_cell q 5 _ rfl⟩
                obtain ⟨u, hu8, u0, u1⟩ := hu
                have X20 : Hid ((wr.alloc (.cells #[.int .u64 (hi u), .int .u64 (lo u)] 29)).heap[wr.heap.size]? = some (.cells #[.int .u64 (hi u), .int .u64 (lo u)] 29 (0, 0))) := Lib.hid (heap_alloc_new wr _)
                have C20 := (Below.refl _ wr).alloc (Nat.le_refl _) (.cells #[.int .u64 (hi u), .int .u64 (lo u)] 29)
                have J20 := Lib.hid (JR.out.below C20)
                have B20 : Hid (Below wT.heap.size wT (wr.alloc (.cells #[.int .u64 (hi u), .int .u64 (lo u)] 29))) := Lib.hid (HBT.out.trans (C20.mono HBT.out.size))
                have hlx := s_lng J20.out.s hb8 u hu8
                rw [HE.out.lng hb8 u] at hlx
                have KY : Hid (∀ W, Below (wr.alloc (.cells #[.int .u64 (hi u), .int .u64 (lo u)] 29)).heap.size (wr.alloc (.cells #[.int .u64 (hi u), .int .u64 (lo u)] 29)) W → Calls Try.prog 35 #[.pointer (some ⟨w1.heap.size, 0, none⟩), .agg #[.int .u64 (hi u), .int .u64 (lo u)]] W (RetX (.tuple #[.int .i64 ((lngE b u L).1 : Int), .int .i64 (lngE b u L).2.1, .bool (lngE b u L).2.2]) W)) := Lib.hid fun W hb => ju_lngE (J20.out.below hb) (by omega) u hu8
                generalize lngE b u L = r at hlx KY
                obtain ⟨ra, rb, rc⟩ := r
                dsimp only at hlx KY
                clear C20
                go_wp2_with fail
                refine hlx.mono ?_
                rintro e w21 ⟨rfl, h21⟩
                have B21 := Lib.hid h21
                have q21 := (h21.block _ (heap_ltU X20.out)).trans X20.out
                have y0 := blk_cell q21 0 _ rfl
                have y1 := blk_cell q21 1 _ rfl
                clear hlx h21 q21 u0 u1
                go_wp2_with fail
                refine (KY.out _ B21.out).mono ?_
                rintro e w22 ⟨rfl, h22⟩
                have B22 := Lib.hid (B20.out.trans ((B21.out.trans (h22.mono B21.out.size)).mono B20.out.size))
                clear h22 y0 y1
                cases rc
                all_goals
                  go_wp2_with fail
                  go_roundw
                  case rel => exact ⟨t + 1, by omega, by simp, B22.out⟩
                  case measure => simp [intOf]; omega
              · obtain rfl : t = 3 := by omega
                go_wp2_with fail
                go_roundw
                case rel => exact ⟨j + 1, by omega, by simp, JR.out⟩
                case measure => simp [intOf]; omega
          · have hL0i : ¬ 0 < (L.length : Int) := by omega
            have hL0d : decide (0 < (L.length : Int)) = false := decide_eq_false hL0i
            go_wp2_with fail
            rw [← HW9.out]
            have X9' := X9
            have Z9' := Z9
            have J9' := J9
            rw [← HW9.out] at X9' Z9' J9'
            clear cy p0 p1
            have HKS : Hid (∀ w', Below w9.heap.size w9 w' → Below w9.heap.size w9 w' ∧ w'.cell? ⟨wJ.heap.size, 0, none⟩ = some (.int .u64 (hi v)) ∧ w'.cell? ⟨wJ.heap.size, 1, none⟩ = some (.int .u64 (lo v)) ∧ w'.cell? ⟨w8.heap.size, 0, none⟩ = some (.int .u64 (hi (lowB v b))) ∧ w'.cell? ⟨w8.heap.size, 1, none⟩ = some (.int .u64 (lo (lowB v b)))) := Lib.hid fun w' hb => by
              have q0 := (hb.block _ (heap_ltU X9'.out)).trans X9'.out
              have q1 := (hb.block _ (heap_ltU Z9'.out)).trans Z9'.out
              exact ⟨hb, blk_cell q0 0 _ rfl, blk_cell q0 1 _ rfl, blk_cell q1 0 _ rfl, blk_cell q1 1 _ rfl⟩
            have KLB : Hid (∀ W, Calls Try.prog 11 #[.agg #[.int .u64 (hi v), .int .u64 (lo v)], .int .i64 b] W (RetV (lowB v b) W)) := Lib.hid fun W => cs_low v b hv8 (by omega) W
            refine wp_region_noPanic ?_
            refine wp_region_held_drew (S := fun w' => Below w9.heap.size w9 w' ∧ w'.cell? ⟨wJ.heap.size, 0, none⟩ = some (.int .u64 (hi v)) ∧ w'.cell? ⟨wJ.heap.size, 1, none⟩ = some (.int .u64 (lo v)) ∧ w'.cell? ⟨w8.heap.size, 0, none⟩ = some (.int .u64 (hi (lowB v b))) ∧ w'.cell? ⟨w8.heap.size, 1, none⟩ = some (.int .u64 (lo (lowB v b)))) (by kernel_rfl) (HKS.out _ (Below.drew (Below.refl _ _))) (fun hHeld => ?_)
            refine wpAnyH_take (i := 0) (oi := ({ dst := some 99, op := Op.load 29 (Operand.tmp 15), type := 29, pos := "law.go:99", after := #[], guard := none } : Oper)) (v := ?_) rfl (by kernel_rfl) (by kernel_rfl) (by kernel_rfl) (fun _ _ _ h => h) (Or.inl ⟨by rfl, ?_⟩) hHeld ?_
            rotate_left
            · (intro w1 hSw; (try dsimp only at hSw); go_simp; all_goals with_reducible rfl)
            (try go_frame)
            refine wpAnyH_take (i := 1) (oi := ({ dst := some 100, op := Op.load 29 (Operand.tmp 16), type := 29, pos := "law.go:99", after := #[], guard := none } : Oper)) (v := ?_) rfl (by kernel_rfl) (by kernel_rfl) (by kernel_rfl) (fun _ _ _ h => h) (Or.inl ⟨by rfl, ?_⟩) hHeld ?_
            rotate_left
            · (intro w1 hSw; (try dsimp only at hSw); go_simp; all_goals with_reducible rfl)
            (try go_frame)
            refine wpAnyH_take (i := 2) (oi := ({ dst := some 101, op := Op.load 29 (Operand.tmp 15), type := 29, pos := "law.go:99", after := #[], guard := none } : Oper)) (v := ?_) rfl (by kernel_rfl) (by kernel_rfl) (by kernel_rfl) (fun _ _ _ h => h) (Or.inl ⟨by rfl, ?_⟩) hHeld ?_
            rotate_left
            · (intro w1 hSw; (try dsimp only at hSw); go_simp; all_goals with_reducible rfl)
            (try go_frame)
            refine wpAnyH_take (i := 3) (oi := ({ dst := some 102, op := Op.move (Operand.tmp 7), type := 3, pos := "law.go:99", after := #[], guard := none } : Oper)) (v := ?_) rfl (by kernel_rfl) (by kernel_rfl) (by kernel_rfl) (fun _ _ _ h => h) (Or.inl ⟨by rfl, ?_⟩) hHeld ?_
            rotate_left
            · (intro w1 hSw; (try dsimp only at hSw); go_simp; all_goals with_reducible rfl)
            (try go_frame)
            refine wpAnyH_take (i := 7) (oi := ({ dst := some 106, op := Op.move (Operand.const (Value.int IntKind.i64 0)), type := 3, pos := "law.go:99", after := #[], guard := none } : Oper)) (v := ?_) rfl (by kernel_rfl) (by kernel_rfl) (by kernel_rfl) (fun _ _ _ h => h) (Or.inl ⟨by rfl, ?_⟩) hHeld ?_
            rotate_left
            · (intro w1 hSw; (try dsimp only at hSw); go_simp; all_goals with_reducible rfl)
            (try go_frame)
            refine wpAnyH_ready (rs := [4]) (by kernel_rfl) (by simp) ?_
            refine AllReadyH.cons (o := ({ dst := some 103, op := Op.call { callee := Callee.value (Operand.func 11), args := #[Operand.tmp 101, Operand.tmp 102], argTypes := #[29, 3] }, type := 29, pos := "law.go:99", after := #[{ on := 2, ground := Ground.data }, { on := 3, ground := Ground.data }], guard := none } : Oper)) rfl (fun K hK => ?_) AllReadyH.nil
            go_simp
            go_wp2_with (go_at_call 11; (with_reducible refine (KLB.out _).mono ?_); rintro en v1 ⟨rfl, hv1⟩; have B1 := Lib.hid (below_call (And.left hHeld) hv1))
            refine hK.out _ _ ?_ (fun hHeld2 => ?_)
            · exact HKS.out _ (below_call (And.left hHeld) (by assumption))
            clear hK K hHeld
            have hHeld := hHeld2
            clear hHeld2
            (try go_frame)
            refine wpAnyH_ready (rs := [5]) (by kernel_rfl) (by simp) ?_
            refine AllReadyH.cons (o := ({ dst := some 104, op := Op.buildSlice 24 3 #[(0, Operand.tmp 99), (1, Operand.tmp 100), (2, Operand.tmp 103)], type := 24, pos := "law.go:99", after := #[{ on := 0, ground := Ground.data }, { on := 1, ground := Ground.data }, { on := 4, ground := Ground.data }], guard := none } : Oper)) rfl (fun K hK => ?_) AllReadyH.nil
            go_simp
            refine hK.out _ _ ?_ (fun hHeld2 => ?_)
            · exact HKS.out _ (below_alloc B1.out _)
            clear hK K hHeld
            have hHeld := hHeld2
            clear hHeld2
            (try go_frame)
            refine wpAnyH_take (i := 6) (oi := ({ dst := some 105, op := Op.call { callee := Callee.builtin Builtin.len, args := #[Operand.tmp 104], argTypes := #[24] }, type := 3, pos := "law.go:99", after := #[{ on := 5, ground := Ground.data }], guard := none } : Oper)) (v := ?_) rfl (by kernel_rfl) (by kernel_rfl) (by kernel_rfl) (fun _ _ _ h => h) (Or.inl ⟨by rfl, ?_⟩) hHeld ?_
            rotate_left
            · (intro w1 hSw; (try dsimp only at hSw); go_simp; all_goals with_reducible rfl)
            (try go_frame)
            refine wpAnyH_done (by kernel_rfl) ?_ _
            refine NoPanic.normal ?_
            (try go_frame)
            obtain ⟨wT, hwT⟩ : ∃ x, x = v1.alloc (.cells #[.int .u64 (hi v), .int .u64 (lo v), .int .u64 (hi (lowB v b)), .int .u64 (lo (lowB v b)), .int .u64 (hi (lowB v b)), .int .u64 (lo (lowB v b))] 29) := ⟨_, rfl⟩
            have GT : Hid (wT.heap[v1.heap.size]? = some (.cells #[.int .u64 (hi v), .int .u64 (lo v), .int .u64 (hi (lowB v b)), .int .u64 (lo (lowB v b)), .int .u64 (hi (lowB v b)), .int .u64 (lo (lowB v b))] 29 (0, 0))) := Lib.hid (by rw [hwT]; exact heap_alloc_new _ _)
            have JT : Hid (JU w wT w.heap.size w1.heap.size b m1 m L F) := Lib.hid (by rw [hwT]; exact J9'.out.below (below_alloc B1.out _))
            rw [← hwT]
            clear hwT
            go_wp2_with fail
            go_loopw [106] (fun i W => ∃ t : Nat, t ≤ 3 ∧ i = .int .i64 t ∧ Below wT.heap.size wT W) (fun i _ => 3 - (intOf i).toNat)
            case atStart => exact ⟨0, by omega, rfl, Below.refl _ _⟩
            case round =>
              obtain ⟨t, ht, rfl, hbT⟩ := hrel
              have HBT := Lib.hid hbT
              have JR := Lib.hid (JT.out.below hbT)
              clear hbT
              by_cases ht3 : t < 3
              · have t1 : (t : Int) < 3 := by omega
                have t0 : 0 ≤ (t : Int) := by omega
                have hu : ∃ u : Nat, u < 2 ^ 128 ∧ wr.cell? ⟨v1.heap.size, t * 2, none⟩ = some (.int .u64 (hi u)) ∧ wr.cell? ⟨v1.heap.size, t * 2 + 1, none⟩ = some (.int .u64 (lo u)) := by
                  have q := (HBT.out.block _ (heap_ltU GT.out)).trans GT.out
                  rcases (by omega : t = 0 ∨ t = 1 ∨ t = 2) with e | e | e <;> rw [e]
                  · exact ⟨v, hv8, blk_cell q 0 _ rfl, blk_cell q 1 _ rfl⟩
                  · exact ⟨(lowB v b), hl8, blk_cell q 2 _ rfl, blk_cell q 3 _ rfl⟩
                  · exact ⟨lowB v b, hl8, blk_cell q 4 _ rfl, blk_cell q 5 _ rfl⟩
                obtain ⟨u, hu8, u0, u1⟩ := hu
                have X20 : Hid ((wr.alloc (.cells #[.int .u64 (hi u), .int .u64 (lo u)] 29)).heap[wr.heap.size]? = some (.cells #[.int .u64 (hi u), .int .u64 (lo u)] 29 (0, 0))) := Lib.hid (heap_alloc_new wr _)
                have C20 := (Below.refl _ wr).alloc (Nat.le_refl _) (.cells #[.int .u64 (hi u), .int .u64 (lo u)] 29)
                have J20 := Lib.hid (JR.out.below C20)
                have B20 : Hid (Below wT.heap.size wT (wr.alloc (.cells #[.int .u64 (hi u), .int .u64 (lo u)] 29))) := Lib.hid (HBT.out.trans (C20.mono HBT.out.size))
                have hlx := s_lng J20.out.s hb8 u hu8
                rw [HE.out.lng hb8 u] at hlx
                have KY : Hid (∀ W, Below (wr.alloc (.cells #[.int .u64 (hi u), .int .u64 (lo u)] 29)).heap.size (wr.alloc (.cells #[.int .u64 (hi u), .int .u64 (lo u)] 29)) W → Calls Try.prog 35 #[.pointer (some ⟨w1.heap.size, 0, none⟩), .agg #[.int .u64 (hi u), .int .u64 (lo u)]] W (RetX (.tuple #[.int .i64 ((lngE b u L).1 : Int), .int .i64 (lngE b u L).2.1, .bool (lngE b u L).2.2]) W)) := Lib.hid fun W hb => ju_lngE (J20.out.below hb) (by omega) u hu8
                generalize lngE b u L = r at hlx KY
                obtain ⟨ra, rb, rc⟩ := r
                dsimp only at hlx KY
                clear C20
                go_wp2_with fail
                refine hlx.mono ?_
                rintro e w21 ⟨rfl, h21⟩
                have B21 := Lib.hid h21
                have q21 := (h21.block _ (heap_ltU X20.out)).trans X20.out
                have y0 := blk_cell q21 0 _ rfl
                have y1 := blk_cell q21 1 _ rfl
                clear hlx h21 q21 u0 u1
                go_wp2_with fail
                refine (KY.out _ B21.out).mono ?_
                rintro e w22 ⟨rfl, h22⟩
                have B22 := Lib.hid (B20.out.trans ((B21.out.trans (h22.mono B21.out.size)).mono B20.out.size))
                clear h22 y0 y1
                cases rc
                all_goals
                  go_wp2_with fail
                  go_roundw
                  case rel => exact ⟨t + 1, by omega, by simp, B22.out⟩
                  case measure => simp [intOf]; omega
              · obtain rfl : t = 3 := by omega
                go_wp2_with fail
                go_roundw
                case rel => exact ⟨j + 1, by omega, by simp, JR.out⟩
                case measure => simp [intOf]; omega
        · obtain rfl : m2 = j := by omega
          go_wp2_with fail
          refine (ub_begun _).mono ?_
          rintro e w30 ⟨rfl, h30⟩
          have B30 := Lib.hid (HJ2.out.bl.trans (h30.mono HJ2.out.bl.size))
          clear h30
          go_wp2_with fail
          go_ret
          exact ⟨rfl, B30.out⟩
end Go.Proofs.Ytmlocfojmncghaa
