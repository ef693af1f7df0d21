/- Layer 12: the walk of TrieCalls. -/
import Derived.Test.YtmlocfojmncghaaUCalP
namespace Go.Proofs.Ytmlocfojmncghaa
open Go.RowKit
set_option maxRecDepth 100000 in
set_option maxHeartbeats 8000000 in
theorem calls_anyU (hP : PutE) (hR : RemE) (hG : GetE) (hA : AllE) (w : World) (x0 : Int) (A1 : Option Addr) (n1 c1 : Nat) (qs1 : List UOp) (hn1 : qs1.length = n1) (hc1 : n1 ≤ c1) (hm1 : c1 ≤ 9223372036854775807) (hok1 : ∀ q ∈ qs1, q.ok) (hr1 : OpsU w A1 qs1) :
    Calls Try.prog 4 #[.int .i64 x0, .slice A1 n1 c1] w (RetX (.bool true) w) := by
  have HP := Lib.hid hP
  have HR := Lib.hid hR
  have HG := Lib.hid hG
  have HA := Lib.hid hA
  have HN1 := Lib.hid hn1
  have HOK1 := Lib.hid hok1
  obtain ⟨m1, hmm1⟩ : ∃ m1 : Nat, m1 = min n1 24 := ⟨_, rfl⟩
  have hmin1 : min (n1 : Int) 24 = (m1 : Int) := by omega
  have hm1n : m1 ≤ n1 := by omega
  have hm124 : m1 ≤ 24 := by omega
  obtain ⟨y, hy⟩ : ∃ y, y = wrap64 (1 + bits .and .i64 x0 127) := ⟨_, rfl⟩
  have HY := Lib.hid hy
  obtain ⟨w0, hw0⟩ : ∃ w0, w0 = w.alloc (.cells #[.int .i64 x0, .int .i64 y, .int .i64 8] 3) := ⟨_, rfl⟩
  have HW0 := Lib.hid hw0
  have B0 : Hid (Below w.heap.size w w0) := Lib.hid (by rw [hw0]; exact (Below.refl _ w).alloc (Nat.le_refl _) _)
  have G0 : Hid (w0.heap[w.heap.size]? = some (.cells #[.int .i64 x0, .int .i64 y, .int .i64 8] 3 (0, 0))) := Lib.hid (by rw [hw0]; exact heap_alloc_new _ _)
  have HR1 := Lib.hid (hr1.below B0.out)
  clear hn1 hok1 hr1 hmm1 hy hw0 hP hR hG hA
  go_enter Try.func4, Try.ntmps4
  go_wp2_with fail
  rw [← HY.out, ← HW0.out]
  go_loopw [23] (fun i W => ∃ t : Nat, t ≤ 3 ∧ i = .int .i64 t ∧ Below w0.heap.size w0 W) (fun i _ => 3 - (intOf i).toNat)
  case atStart => exact ⟨0, by omega, rfl, Below.refl _ _⟩
  case round =>
    obtain ⟨t, ht, rfl, hbt⟩ := hrel
    have HBT := Lib.hid hbt
    clear hbt
    obtain ⟨wU, hwU⟩ : ∃ y : World, y = wr := ⟨_, rfl⟩
    subst hwU
    by_cases ht3 : t < 3
    · have t1 : (t : Int) < 3 := by omega
      have t0 : 0 ≤ (t : Int) := by omega
      have hz : ∃ z : Int, wU.cell? ⟨w.heap.size, t, none⟩ = some (.int .i64 z) := by
        have q := (HBT.out.block _ (heap_ltU G0.out)).trans G0.out
        rcases (by omega : t = 0 ∨ t = 1 ∨ t = 2) with e | e | e <;> rw [e]
        · exact ⟨_, blk_cell q 0 _ rfl⟩
        · exact ⟨_, blk_cell q 1 _ rfl⟩
        · exact ⟨_, blk_cell q 2 _ rfl⟩
      obtain ⟨z, hz0⟩ := hz
      obtain ⟨B, hB⟩ : ∃ B : Nat, B = bitsU z := ⟨_, rfl⟩
      have hb1 : 1 ≤ B := by rw [hB]; unfold bitsU; omega
      have hb8 : B ≤ 128 := by rw [hB]; unfold bitsU; omega
      have HBE : Hid (max 1 (min z 128) = (B : Int)) := Lib.hid (by rw [hB]; unfold bitsU; omega)
      have HB := Lib.hid hB.symm
      clear hB
      go_wp2_with fail
      refine (s_new z wU).mono ?_
      rintro e w1 ⟨rfl, hb1w, hz1, hS1⟩
      rw [HB.out] at hS1
      have J0 := Lib.hid (JU.start hS1 (HBT.out.trans (hb1w.mono HBT.out.size)) HBT.out.size)
      clear hb1w hz1 hS1
      go_wp2_with fail
      refine (re_New z w1).mono ?_
      rintro e w2 ⟨rfl, hw2⟩
      rw [HBE.out] at hw2
      rw [← hw2] at J0
      clear hw2
      go_wp2_with fail
      go_loopw [37] (fun i W => ∃ (k : Nat) (m : Pth → Option Int) (L : List PE) (F : Nat → Prop), k ≤ m1 ∧ i = .int .i64 k ∧ JU w0 W wU.heap.size w1.heap.size B k m L F ∧ RelE B m L ∧ L.length ≤ k) (fun i _ => m1 - (intOf i).toNat)
      case atStart => exact ⟨0, _, [], _, Nat.zero_le _, rfl, J0.out, RelE.nil B, Nat.le_refl _⟩
      case round =>
        obtain ⟨k, m, L, F, hk, rfl, hJ, hE, hL⟩ := hrel
        have HJ := Lib.hid hJ
        have HE := Lib.hid hE
        clear hJ hE
        by_cases hlt : k < m1
        · have hk1 : (k : Int) < (m1 : Int) := by omega
          have hk2 : (k : Int) < (c1 : Int) := by omega
          have hk0 : 0 ≤ (k : Int) := by omega
          obtain ⟨q, hq⟩ : ∃ q, qs1[k]? = some q := ⟨_, List.getElem?_eq_getElem (by rw [HN1.out]; omega)⟩
          have HQK := Lib.hid (HOK1.out q (List.mem_of_getElem? hq))
          obtain ⟨g, o, hA, hg2, hcell⟩ := (HR1.out.below HJ.out.bl).resolve_left (fun e => by rw [e] at hq; simp at hq)
          subst hA
          have hc := hcell k q hq
          have p0 : wr.cell? ⟨g, o + k * 6, none⟩ = some (.int .i64 q.kind) := hc 0 (by omega)
          have p1 : wr.cell? ⟨g, o + k * 6 + 1, none⟩ = some (.int .u8 q.raw) := hc 1 (by omega)
          have p2 : wr.cell? ⟨g, o + k * 6 + 2, none⟩ = some (.int .u64 (hi q.v)) := hc 2 (by omega)
          have p3 : wr.cell? ⟨g, o + k * 6 + 3, none⟩ = some (.int .u64 (lo q.v)) := hc 3 (by omega)
          have p4 : wr.cell? ⟨g, o + k * 6 + 4, none⟩ = some (.int .i64 q.n) := hc 4 (by omega)
          have p5 : wr.cell? ⟨g, o + k * 6 + 5, none⟩ = some (.int .i64 q.id) := hc 5 (by omega)
          clear hc hcell hq
          obtain ⟨wK, hwK⟩ : ∃ y : World, y = wr := ⟨_, rfl⟩
          subst hwK
          obtain ⟨w7, hw7⟩ : ∃ x, x = wK.alloc (.cells #[.int .i64 q.kind, .int .u8 q.raw, .int .u64 (hi q.v), .int .u64 (lo q.v), .int .i64 q.n, .int .i64 q.id] 59) := ⟨_, rfl⟩
          have HW7 := Lib.hid hw7
          have X7 : Hid (w7.heap[wK.heap.size]? = some (.cells #[.int .i64 q.kind, .int .u8 q.raw, .int .u64 (hi q.v), .int .u64 (lo q.v), .int .i64 q.n, .int .i64 q.id] 59 (0, 0))) := Lib.hid (by rw [hw7]; exact heap_alloc_new wK _)
          have C7 : Hid (Below wK.heap.size wK w7) := Lib.hid (by rw [hw7]; exact (Below.refl _ wK).alloc (Nat.le_refl _) _)
          have J7 := Lib.hid (HJ.out.below C7.out)
          have KPF : Hid (∀ W, Calls Try.prog 20 #[.agg #[.int .i64 q.kind, .int .u8 q.raw, .int .u64 (hi q.v), .int .u64 (lo q.v), .int .i64 q.n, .int .i64 q.id], .int .i64 B] W (RetX (.tuple #[.agg #[.int .u64 (hi (pfV q B)), .int .u64 (lo (pfV q B))], .int .i64 (pfN q B)]) W)) := Lib.hid fun W => uo_prefix q HQK.out B hb1 hb8 W
          have HKS : Hid (∀ w', Below w7.heap.size w7 w' → w'.cell? ⟨w1.heap.size, 0, none⟩ = some (.int .i64 B) ∧ w'.cell? ⟨wK.heap.size, 0, none⟩ = some (.int .i64 q.kind) ∧ w'.cell? ⟨wK.heap.size, 1, none⟩ = some (.int .u8 q.raw) ∧ w'.cell? ⟨wK.heap.size, 2, none⟩ = some (.int .u64 (hi q.v)) ∧ w'.cell? ⟨wK.heap.size, 3, none⟩ = some (.int .u64 (lo q.v)) ∧ w'.cell? ⟨wK.heap.size, 4, none⟩ = some (.int .i64 q.n) ∧ w'.cell? ⟨wK.heap.size, 5, none⟩ = some (.int .i64 q.id)) := Lib.hid fun w' hb => by
            have q1 := (hb.block _ (heap_ltU X7.out)).trans X7.out
            obtain ⟨A, cap, h1, _⟩ := (J7.out.below hb).r
            exact ⟨h1.b, blk_cell q1 0 _ rfl, blk_cell q1 1 _ rfl, blk_cell q1 2 _ rfl, blk_cell q1 3 _ rfl, blk_cell q1 4 _ rfl, blk_cell q1 5 _ rfl⟩
          clear hw7
          go_upto_region 8 with fail
          rw [← HW7.out]
          clear p0 p1 p2 p3 p4 p5
          go_cut [11, 12] from 41 to 49 (fun v11 v12 wx => ∃ D, v11 = .pointer (some ⟨D, 0, none⟩) ∧ v12 = .int .i64 (pfN q B) ∧ w7.heap.size ≤ D ∧ Below w7.heap.size w7 wx ∧ wx.heap[D]? = some (.cells #[.int .u64 (hi (pfV q B)), .int .u64 (lo (pfV q B))] 29 (0, 0)))
          case first =>
            have HKD : Hid (∀ w', Below w7.heap.size w7 w' → Below w7.heap.size w7 w' ∧ w'.cell? ⟨w1.heap.size, 0, none⟩ = some (.int .i64 B) ∧ w'.cell? ⟨wK.heap.size, 0, none⟩ = some (.int .i64 q.kind) ∧ w'.cell? ⟨wK.heap.size, 1, none⟩ = some (.int .u8 q.raw) ∧ w'.cell? ⟨wK.heap.size, 2, none⟩ = some (.int .u64 (hi q.v)) ∧ w'.cell? ⟨wK.heap.size, 3, none⟩ = some (.int .u64 (lo q.v)) ∧ w'.cell? ⟨wK.heap.size, 4, none⟩ = some (.int .i64 q.n) ∧ w'.cell? ⟨wK.heap.size, 5, none⟩ = some (.int .i64 q.id)) := Lib.hid fun w' hb => ⟨hb, HKS.out w' hb⟩
            refine wp_region_noPanic ?_
            refine wp_region_held_drew (S := fun w' => Below w7.heap.size w7 w' ∧ w'.cell? ⟨w1.heap.size, 0, none⟩ = some (.int .i64 B) ∧ w'.cell? ⟨wK.heap.size, 0, none⟩ = some (.int .i64 q.kind) ∧ w'.cell? ⟨wK.heap.size, 1, none⟩ = some (.int .u8 q.raw) ∧ w'.cell? ⟨wK.heap.size, 2, none⟩ = some (.int .u64 (hi q.v)) ∧ w'.cell? ⟨wK.heap.size, 3, none⟩ = some (.int .u64 (lo q.v)) ∧ w'.cell? ⟨wK.heap.size, 4, none⟩ = some (.int .i64 q.n) ∧ w'.cell? ⟨wK.heap.size, 5, none⟩ = some (.int .i64 q.id)) (by kernel_rfl) (HKD.out _ (Below.drew (Below.refl _ _))) (fun hHeld => ?_)
            refine wpAnyH_take (i := 0) (oi := ({ dst := some 42, op := Op.load 59 (Operand.tmp 10), type := 59, pos := "law.go:57", after := #[], guard := none } : Oper)) (v := ?_) rfl (by kernel_rfl) (by kernel_rfl) (by kernel_rfl) (fun _ _ _ h => h) (Or.inl ⟨by rfl, ?_⟩) hHeld ?_
            rotate_left
            · (intro w1 hSw; (try dsimp only at hSw); go_simp; all_goals with_reducible rfl)
            (try go_frame)
            refine wpAnyH_take (i := 1) (oi := ({ dst := some 43, op := Op.move (Operand.tmp 8), type := 56, pos := "law.go:57", after := #[], guard := none } : Oper)) (v := ?_) rfl (by kernel_rfl) (by kernel_rfl) (by kernel_rfl) (fun _ _ _ h => h) (Or.inl ⟨by rfl, ?_⟩) hHeld ?_
            rotate_left
            · (intro w1 hSw; (try dsimp only at hSw); go_simp; all_goals with_reducible rfl)
            (try go_frame)
            refine wpAnyH_take (i := 2) (oi := ({ dst := some 44, op := Op.nilCheck (Operand.tmp 43), type := 0, pos := "law.go:57", after := #[{ on := 1, ground := Ground.data }], guard := none } : Oper)) (v := ?_) rfl (by kernel_rfl) (by kernel_rfl) (by kernel_rfl) (fun _ _ _ h => h) (Or.inl ⟨by rfl, ?_⟩) hHeld ?_
            rotate_left
            · (intro w1 hSw; (try dsimp only at hSw); go_simp; all_goals with_reducible rfl)
            (try go_frame)
            refine wpAnyH_take (i := 3) (oi := ({ dst := some 45, op := Op.fieldAddr 64 (Operand.tmp 44) 0, type := 0, pos := "law.go:57", after := #[{ on := 2, ground := Ground.data }], guard := none } : Oper)) (v := ?_) rfl (by kernel_rfl) (by kernel_rfl) (by kernel_rfl) (fun _ _ _ h => h) (Or.inl ⟨by rfl, ?_⟩) hHeld ?_
            rotate_left
            · (intro w1 hSw; (try dsimp only at hSw); go_simp; all_goals with_reducible rfl)
            (try go_frame)
            refine wpAnyH_take (i := 4) (oi := ({ dst := some 46, op := Op.load 3 (Operand.tmp 45), type := 3, pos := "law.go:57", after := #[{ on := 3, ground := Ground.data }], guard := none } : Oper)) (v := ?_) rfl (by kernel_rfl) (by kernel_rfl) (by kernel_rfl) (fun _ _ _ h => h) (Or.inl ⟨by rfl, ?_⟩) hHeld ?_
            rotate_left
            · (intro w1 hSw; (try dsimp only at hSw); go_simp; all_goals with_reducible rfl)
            (try go_frame)
            refine wpAnyH_ready (rs := [5, 9]) (by kernel_rfl) (by simp) ?_
            refine AllReadyH.cons (o := ({ dst := some 47, op := Op.call { callee := Callee.value (Operand.func 20), args := #[Operand.tmp 42, Operand.tmp 46], argTypes := #[59, 3] }, type := 60, pos := "law.go:57", after := #[{ on := 0, ground := Ground.data }, { on := 4, ground := Ground.data }], guard := none } : Oper)) rfl (fun K hK => ?_) (AllReadyH.cons (o := ({ dst := some 11, op := Op.alloc 29, type := 0, pos := "law.go:57", after := #[], guard := none } : Oper)) rfl (fun K hK => ?_) AllReadyH.nil)
            · go_simp
              go_wp2_with (go_at_call 20; (with_reducible refine (KPF.out _).mono ?_); rintro en v1 ⟨rfl, hv1⟩; have B1 := Lib.hid (below_call (And.left hHeld) hv1))
              refine hK.out _ _ ?_ (fun hHeld2 => ?_)
              · exact HKD.out _ B1.out
              clear hK K hHeld
              have hHeld := hHeld2
              clear hHeld2
              (try go_frame)
              refine wpAnyH_take (i := 6) (oi := ({ dst := some 41, op := Op.move (Operand.tmp 47), type := 60, pos := "law.go:57", after := #[{ on := 5, ground := Ground.data }], guard := none } : Oper)) (v := ?_) rfl (by kernel_rfl) (by kernel_rfl) (by kernel_rfl) (fun _ _ _ h => h) (Or.inl ⟨by rfl, ?_⟩) hHeld ?_
              rotate_left
              · (intro w1 hSw; (try dsimp only at hSw); go_simp; all_goals with_reducible rfl)
              (try go_frame)
              refine wpAnyH_take (i := 7) (oi := ({ dst := some 48, op := Op.extract (Operand.tmp 41) 0, type := 29, pos := "law.go:57", after := #[{ on := 6, ground := Ground.data }], guard := none } : Oper)) (v := ?_) rfl (by kernel_rfl) (by kernel_rfl) (by kernel_rfl) (fun _ _ _ h => h) (Or.inl ⟨by rfl, ?_⟩) hHeld ?_
              rotate_left
              · (intro w1 hSw; (try dsimp only at hSw); go_simp; all_goals with_reducible rfl)
              (try go_frame)
              refine wpAnyH_take (i := 8) (oi := ({ dst := some 49, op := Op.extract (Operand.tmp 41) 1, type := 3, pos := "law.go:57", after := #[{ on := 6, ground := Ground.data }, { on := 10, ground := Ground.gcOnly Departure.lateStores }], guard := none } : Oper)) (v := ?_) rfl (by kernel_rfl) (by kernel_rfl) (by kernel_rfl) (fun _ _ _ h => h) (Or.inl ⟨by rfl, ?_⟩) hHeld ?_
              rotate_left
              · (intro w1 hSw; (try dsimp only at hSw); go_simp; all_goals with_reducible rfl)
              (try go_frame)
              refine wpAnyH_ready (rs := [9]) (by kernel_rfl) (by simp) ?_
              refine AllReadyH.cons (o := ({ dst := some 11, op := Op.alloc 29, type := 0, pos := "law.go:57", after := #[], guard := none } : Oper)) rfl (fun K hK => ?_) AllReadyH.nil
              go_simp
              refine hK.out _ _ ?_ (fun hHeld2 => ?_)
              · exact HKD.out _ (below_alloc B1.out _)
              clear hK K hHeld
              have hHeld := hHeld2
              clear hHeld2
              (try go_frame)
              refine wpAnyH_ready (rs := [10]) (by kernel_rfl) (by simp) ?_
              refine AllReadyH.cons (o := ({ dst := none, op := Op.store 29 (Operand.tmp 11) (Operand.tmp 48), type := 0, pos := "law.go:57", after := #[{ on := 9, ground := Ground.data }, { on := 7, ground := Ground.data }, { on := 5, ground := Ground.chain }, { on := 0, ground := Ground.phase }, { on := 1, ground := Ground.phase }, { on := 2, ground := Ground.phase }, { on := 3, ground := Ground.phase }, { on := 4, ground := Ground.phase }, { on := 5, ground := Ground.phase }, { on := 6, ground := Ground.phase }, { on := 7, ground := Ground.phase }, { on := 8, ground := Ground.textOnly Departure.lateStores }, { on := 9, ground := Ground.phase }], guard := none } : Oper)) rfl (fun K hK => ?_) AllReadyH.nil
              go_simp
              refine hK.out _ _ ?_ (fun hHeld2 => ?_)
              · exact HKD.out _ (below_alloc B1.out _)
              clear hK K hHeld
              have hHeld := hHeld2
              clear hHeld2
              (try go_frame)
              refine wpAnyH_take (i := 11) (oi := ({ dst := some 12, op := Op.assign (Operand.tmp 49), type := 3, pos := "law.go:57", after := #[{ on := 8, ground := Ground.data }, { on := 10, ground := Ground.chain }, { on := 0, ground := Ground.phase }, { on := 1, ground := Ground.phase }, { on := 2, ground := Ground.phase }, { on := 3, ground := Ground.phase }, { on := 4, ground := Ground.phase }, { on := 5, ground := Ground.phase }, { on := 6, ground := Ground.phase }, { on := 7, ground := Ground.phase }, { on := 8, ground := Ground.phase }, { on := 9, ground := Ground.phase }, { on := 10, ground := Ground.phase }], guard := none } : Oper)) (v := ?_) rfl (by kernel_rfl) (by kernel_rfl) (by kernel_rfl) (fun _ _ _ h => h) (Or.inl ⟨by rfl, ?_⟩) hHeld ?_
              rotate_left
              · (intro w1 hSw; (try dsimp only at hSw); go_simp; all_goals with_reducible rfl)
              (try go_frame)
              refine wpAnyH_done (by kernel_rfl) ?_ _
              refine NoPanic.normal ?_
              (try go_frame)
              go_wp2_with fail
              go_meet
              exact ⟨_, rfl, rfl, B1.out.size, below_alloc B1.out _, heap_alloc_new v1 _⟩
            · go_simp
              refine hK.out _ _ ?_ (fun hHeld2 => ?_)
              · exact HKD.out _ (below_alloc (And.left hHeld) _)
              clear hK K hHeld
              have hHeld := hHeld2
              clear hHeld2
              (try go_frame)
              have Z0 : Hid ((w7.drew.alloc (.cells #[.int .u64 0, .int .u64 0] 29)).heap[w7.heap.size]? = some (.cells #[.int .u64 0, .int .u64 0] 29 (0, 0))) := Lib.hid (heap_alloc_new w7.drew (.cells #[.int .u64 0, .int .u64 0] 29))
              refine wpAnyH_ready (rs := [5]) (by kernel_rfl) (by simp) ?_
              refine AllReadyH.cons (o := ({ dst := some 47, op := Op.call { callee := Callee.value (Operand.func 20), args := #[Operand.tmp 42, Operand.tmp 46], argTypes := #[59, 3] }, type := 60, pos := "law.go:57", after := #[{ on := 0, ground := Ground.data }, { on := 4, ground := Ground.data }], guard := none } : Oper)) rfl (fun K hK => ?_) AllReadyH.nil
              go_simp
              go_wp2_with (go_at_call 20; (with_reducible refine (KPF.out _).mono ?_); rintro en v1 ⟨rfl, hv1⟩; have B1 := Lib.hid (below_call (And.left hHeld) hv1); have Z1 := Lib.hid ((hv1.block _ (heap_ltU Z0.out)).trans Z0.out))
              refine hK.out _ _ ?_ (fun hHeld2 => ?_)
              · exact HKD.out _ B1.out
              clear hK K hHeld
              have hHeld := hHeld2
              clear hHeld2
              (try go_frame)
              have HBZ := B1
              refine wpAnyH_take (i := 6) (oi := ({ dst := some 41, op := Op.move (Operand.tmp 47), type := 60, pos := "law.go:57", after := #[{ on := 5, ground := Ground.data }], guard := none } : Oper)) (v := ?_) rfl (by kernel_rfl) (by kernel_rfl) (by kernel_rfl) (fun _ _ _ h => h) (Or.inl ⟨by rfl, ?_⟩) hHeld ?_
              rotate_left
              · (intro w1 hSw; (try dsimp only at hSw); go_simp; all_goals with_reducible rfl)
              (try go_frame)
              refine wpAnyH_take (i := 7) (oi := ({ dst := some 48, op := Op.extract (Operand.tmp 41) 0, type := 29, pos := "law.go:57", after := #[{ on := 6, ground := Ground.data }], guard := none } : Oper)) (v := ?_) rfl (by kernel_rfl) (by kernel_rfl) (by kernel_rfl) (fun _ _ _ h => h) (Or.inl ⟨by rfl, ?_⟩) hHeld ?_
              rotate_left
              · (intro w1 hSw; (try dsimp only at hSw); go_simp; all_goals with_reducible rfl)
              (try go_frame)
              refine wpAnyH_take (i := 8) (oi := ({ dst := some 49, op := Op.extract (Operand.tmp 41) 1, type := 3, pos := "law.go:57", after := #[{ on := 6, ground := Ground.data }, { on := 10, ground := Ground.gcOnly Departure.lateStores }], guard := none } : Oper)) (v := ?_) rfl (by kernel_rfl) (by kernel_rfl) (by kernel_rfl) (fun _ _ _ h => h) (Or.inl ⟨by rfl, ?_⟩) hHeld ?_
              rotate_left
              · (intro w1 hSw; (try dsimp only at hSw); go_simp; all_goals with_reducible rfl)
              (try go_frame)
              have zz := Z1.out
              have zc0 := blk_cell zz 0 _ rfl
              have zc1 := blk_cell zz 1 _ rfl
              have zf0 := blk_froz zz 0
              have zf1 := blk_froz zz 1
              refine wpAnyH_ready (rs := [10]) (by kernel_rfl) (by simp) ?_
              refine AllReadyH.cons (o := ({ dst := none, op := Op.store 29 (Operand.tmp 11) (Operand.tmp 48), type := 0, pos := "law.go:57", after := #[{ on := 9, ground := Ground.data }, { on := 7, ground := Ground.data }, { on := 5, ground := Ground.chain }, { on := 0, ground := Ground.phase }, { on := 1, ground := Ground.phase }, { on := 2, ground := Ground.phase }, { on := 3, ground := Ground.phase }, { on := 4, ground := Ground.phase }, { on := 5, ground := Ground.phase }, { on := 6, ground := Ground.phase }, { on := 7, ground := Ground.phase }, { on := 8, ground := Ground.textOnly Departure.lateStores }, { on := 9, ground := Ground.phase }], guard := none } : Oper)) rfl (fun K hK => ?_) AllReadyH.nil
              go_simp
              have hs := blk_set (blk_set zz 0 (.int .u64 (hi (pfV q B)))) 1 (.int .u64 (lo (pfV q B)))
              have hDl : w7.heap.size ≤ w7.heap.size := Nat.le_refl _
              have hbs : Below w7.heap.size w7 ((v1.setCell ⟨w7.heap.size, 0, none⟩ (.int .u64 (hi (pfV q B)))).setCell ⟨w7.heap.size, 1, none⟩ (.int .u64 (lo (pfV q B)))) := Below.setCell (Below.setCell (HBZ.out) hDl _) hDl _
              clear zc0 zc1 zf0 zf1
              refine hK.out _ _ ?_ (fun hHeld2 => ?_)
              · exact HKD.out _ hbs
              clear hK K hHeld
              have hHeld := hHeld2
              clear hHeld2
              (try go_frame)
              refine wpAnyH_take (i := 11) (oi := ({ dst := some 12, op := Op.assign (Operand.tmp 49), type := 3, pos := "law.go:57", after := #[{ on := 8, ground := Ground.data }, { on := 10, ground := Ground.chain }, { on := 0, ground := Ground.phase }, { on := 1, ground := Ground.phase }, { on := 2, ground := Ground.phase }, { on := 3, ground := Ground.phase }, { on := 4, ground := Ground.phase }, { on := 5, ground := Ground.phase }, { on := 6, ground := Ground.phase }, { on := 7, ground := Ground.phase }, { on := 8, ground := Ground.phase }, { on := 9, ground := Ground.phase }, { on := 10, ground := Ground.phase }], guard := none } : Oper)) (v := ?_) rfl (by kernel_rfl) (by kernel_rfl) (by kernel_rfl) (fun _ _ _ h => h) (Or.inl ⟨by rfl, ?_⟩) hHeld ?_
              rotate_left
              · (intro w1 hSw; (try dsimp only at hSw); go_simp; all_goals with_reducible rfl)
              (try go_frame)
              refine wpAnyH_done (by kernel_rfl) ?_ _
              refine NoPanic.normal ?_
              (try go_frame)
              go_wp2_with fail
              go_meet
              exact ⟨_, rfl, rfl, hDl, hbs, hs⟩
          case rest =>
            obtain ⟨D, rfl, rfl, hD, hb8', hZ8⟩ := hcut
            obtain ⟨w8, hw8⟩ : ∃ z, z = wc := ⟨_, rfl⟩
            subst hw8
            have C8 : Hid (Below wK.heap.size wK w8) := Lib.hid (C7.out.trans (hb8'.mono C7.out.size))
            have J8 := Lib.hid (J7.out.below hb8')
            have X8 : Hid (w8.heap[wK.heap.size]? = some (.cells #[.int .i64 q.kind, .int .u8 q.raw, .int .u64 (hi q.v), .int .u64 (lo q.v), .int .i64 q.n, .int .i64 q.id] 59 (0, 0))) := Lib.hid ((hb8'.block _ (heap_ltU X7.out)).trans X7.out)
            have Z8 := Lib.hid hZ8
            have HFK : Hid (∀ j, F j → j < wK.heap.size) := Lib.hid fun j hj => HJ.out.s.lt j hj
            have HYK : Hid (w1.heap.size < wK.heap.size) := Lib.hid (by obtain ⟨A, cap, h1, _⟩ := HJ.out.r; exact h1.lt)
            have HDK : Hid (wK.heap.size ≤ D) := Lib.hid (Nat.le_trans C7.out.size hD)
            have x80 := blk_cell X8.out 0 _ rfl
            clear hb8' hZ8 hD HKS KPF
            obtain ⟨kk, hkk⟩ : ∃ kk, kk = bits .and .i64 q.kind 7 := ⟨_, rfl⟩
            have hkr : 0 ≤ kk ∧ kk < 8 := by
              have h1 := i64_mask q.kind 3 (by decide)
              rw [show ((2 ^ 3 - 1 : Nat) : Int) = 7 from rfl, show ((2 ^ 3 : Nat) : Int) = 8 from rfl] at h1
              rw [hkk, h1]; omega
            have Jd := Lib.hid (J8.out.below (Below.refl _ _).drew)
            rcases (by omega : (kk = 0 ∨ kk = 1 ∨ kk = 2 ∨ kk = 3) ∨ (kk = 4 ∨ kk = 5) ∨ (kk = 6 ∨ kk = 7)) with hg | hg | hg
            · have HPB := Lib.hid (HE.out.put hb8 (pfV q B) (pfV_128 q B HQK.out) (pfN q B) q.id)
              have hlp := putLE_len B (pfV q B) (pfN q B) q.id L
              have HBX : Hid (∀ W : World, W.heap[wK.heap.size]? = some (.cells #[.int .i64 q.kind, .int .u8 q.raw, .int .u64 (hi q.v), .int .u64 (lo q.v), .int .i64 q.n, .int .i64 q.id] 59 (0, 0)) → W.heap[D]? = some (.cells #[.int .u64 (hi (pfV q B)), .int .u64 (lo (pfV q B))] 29 (0, 0)) → W.cell? ⟨wK.heap.size, 5, none⟩ = some (.int .i64 q.id) ∧ W.cell? ⟨D, 0, none⟩ = some (.int .u64 (hi (pfV q B))) ∧ W.cell? ⟨D, 1, none⟩ = some (.int .u64 (lo (pfV q B)))) := Lib.hid fun W h6 h7 => ⟨blk_cell h6 5 _ rfl, blk_cell h7 0 _ rfl, blk_cell h7 1 _ rfl⟩
              have e8_5 := blk_cell X8.out 5 _ rfl
              rcases hg with e | e | e | e
              all_goals
                have hk7 := hkk.symm.trans e
                clear e hkr hkk
                go_upto_region 18 with fail
                clear x80
                go_region_held3 (fun W => W.cell? ⟨wK.heap.size, 5, none⟩ = some (.int .i64 q.id) ∧ W.cell? ⟨D, 0, none⟩ = some (.int .u64 (hi (pfV q B))) ∧ W.cell? ⟨D, 1, none⟩ = some (.int .u64 (lo (pfV q B))))
                  (first
                    | exact HBX.out _ X11.out Z11.out
                    | exact HBX.out _ X10.out Z10.out
                    | exact HBX.out _ X8.out Z8.out)
                  (first
                    | (go_at_call 21; (with_reducible refine (kx_put Jd.out HE.out (by omega) hb8 (pfV q B) (pfV_128 q B HQK.out) (pfN q B) q.id).mono ?_); rintro e w10 ⟨rfl, ⟨F1, hJ1⟩, hfr⟩; have J10 := Lib.hid hJ1; have X10 := Lib.hid (fr_keep hfr X8.out (fun h => by have := HFK.out _ h; omega)); have Z10 := Lib.hid (fr_keep hfr Z8.out (fun h => by have := HFK.out _ h; have := HDK.out; omega)); clear hJ1 hfr)
                    | (go_at_call 22; (with_reducible refine (ju_putE HP.out J10.out hb8 (by omega) (pfV q B) (pfV_128 q B HQK.out) (pfN q B) q.id).mono ?_); rintro e w11 ⟨rfl, hJ2, hfr⟩; have J11 := Lib.hid hJ2; have X11 := Lib.hid (fr_keep hfr X10.out (fun h => by have := HYK.out; omega)); have Z11 := Lib.hid (fr_keep hfr Z10.out (fun h => by have := HYK.out; have := HDK.out; omega)); clear hJ2 hfr))
                go_wp2_with fail
                obtain ⟨Ay, cy, hLn, hAl, hYc, hSm⟩ := tail_factsU HA.out J11.out HPB.out hb8 (by omega) (by omega)
                have hlT := hlp
                obtain ⟨ln, hln⟩ : ∃ ln, ln = (putLE B (pfV q B) (pfN q B) q.id L).length := ⟨_, rfl⟩
                rw [← hln] at hLn hAl hYc hSm
                have KLn := Lib.hid hLn
                have KAl := Lib.hid hAl
                have KSm := Lib.hid hSm
                have HKY : Hid (∀ w', Below w11.heap.size w11 w' → Below w11.heap.size w11 w' ∧ w'.cell? ⟨w1.heap.size, 1, none⟩ = some (.slice Ay ln cy)) := Lib.hid fun w' hb => ⟨hb, hYc w' hb⟩
                clear hLn hAl hYc hSm hln
                go_upto_region 24 with fail
                refine wp_region_noPanic ?_
                refine wp_region_held_drew (S := fun w' => Below w11.heap.size w11 w' ∧ w'.cell? ⟨w1.heap.size, 1, none⟩ = some (.slice Ay ln cy)) (by kernel_rfl) (HKY.out _ (Below.drew (Below.refl _ _))) (fun hHeld => ?_)
                refine wpAnyH_take (i := 0) (oi := ({ dst := some 105, op := Op.move (Operand.tmp 7), type := 54, pos := "law.go:74", after := #[], guard := none } : Oper)) (v := ?_) rfl (by kernel_rfl) (by kernel_rfl) (by kernel_rfl) (fun _ _ _ h => h) (Or.inl ⟨by rfl, ?_⟩) hHeld ?_
                rotate_left
                · (intro w1 hSw; (try dsimp only at hSw); go_simp; all_goals with_reducible rfl)
                (try go_frame)
                refine wpAnyH_take (i := 2) (oi := ({ dst := some 107, op := Op.move (Operand.tmp 8), type := 56, pos := "law.go:74", after := #[], guard := none } : Oper)) (v := ?_) rfl (by kernel_rfl) (by kernel_rfl) (by kernel_rfl) (fun _ _ _ h => h) (Or.inl ⟨by rfl, ?_⟩) hHeld ?_
                rotate_left
                · (intro w1 hSw; (try dsimp only at hSw); go_simp; all_goals with_reducible rfl)
                (try go_frame)
                refine wpAnyH_take (i := 3) (oi := ({ dst := some 108, op := Op.nilCheck (Operand.tmp 107), type := 0, pos := "law.go:74", after := #[{ on := 2, ground := Ground.data }], guard := none } : Oper)) (v := ?_) rfl (by kernel_rfl) (by kernel_rfl) (by kernel_rfl) (fun _ _ _ h => h) (Or.inl ⟨by rfl, ?_⟩) hHeld ?_
                rotate_left
                · (intro w1 hSw; (try dsimp only at hSw); go_simp; all_goals with_reducible rfl)
                (try go_frame)
                refine wpAnyH_take (i := 4) (oi := ({ dst := some 109, op := Op.fieldAddr 64 (Operand.tmp 108) 1, type := 0, pos := "law.go:74", after := #[{ on := 3, ground := Ground.data }], guard := none } : Oper)) (v := ?_) rfl (by kernel_rfl) (by kernel_rfl) (by kernel_rfl) (fun _ _ _ h => h) (Or.inl ⟨by rfl, ?_⟩) hHeld ?_
                rotate_left
                · (intro w1 hSw; (try dsimp only at hSw); go_simp; all_goals with_reducible rfl)
                (try go_frame)
                refine wpAnyH_take (i := 5) (oi := ({ dst := some 110, op := Op.load 62 (Operand.tmp 109), type := 62, pos := "law.go:74", after := #[{ on := 4, ground := Ground.data }], guard := none } : Oper)) (v := ?_) rfl (by kernel_rfl) (by kernel_rfl) (by kernel_rfl) (fun _ _ _ h => h) (Or.inl ⟨by rfl, ?_⟩) hHeld ?_
                rotate_left
                · (intro w1 hSw; (try dsimp only at hSw); go_simp; all_goals with_reducible rfl)
                (try go_frame)
                refine wpAnyH_take (i := 6) (oi := ({ dst := some 111, op := Op.call { callee := Callee.builtin Builtin.len, args := #[Operand.tmp 110], argTypes := #[62] }, type := 3, pos := "law.go:74", after := #[{ on := 5, ground := Ground.data }], guard := none } : Oper)) (v := ?_) rfl (by kernel_rfl) (by kernel_rfl) (by kernel_rfl) (fun _ _ _ h => h) (Or.inl ⟨by rfl, ?_⟩) hHeld ?_
                rotate_left
                · (intro w1 hSw; (try dsimp only at hSw); go_simp; all_goals with_reducible rfl)
                (try go_frame)
                refine wpAnyH_ready (rs := [1]) (by kernel_rfl) (by simp) ?_
                refine AllReadyH.cons (o := ({ dst := some 106, op := Op.call { callee := Callee.value (Operand.func 27), args := #[Operand.tmp 105], argTypes := #[54] }, type := 3, pos := "law.go:74", after := #[{ on := 0, ground := Ground.data }], guard := none } : Oper)) rfl (fun K hK => ?_) AllReadyH.nil
                go_simp
                go_wp2_with (go_at_call 27; (with_reducible refine (KLn.out _ (And.left hHeld)).mono ?_); rintro en v20 ⟨rfl, rfl⟩)
                refine hK.out _ _ ?_ (fun hHeld2 => ?_)
                · exact hHeld
                clear hK K hHeld
                have hHeld := hHeld2
                clear hHeld2
                (try go_frame)
                refine wpAnyH_take (i := 7) (oi := ({ dst := some 112, op := Op.binOp BinOp.neq 3 (Operand.tmp 106) (Operand.tmp 111) 3, type := 4, pos := "law.go:74", after := #[{ on := 1, ground := Ground.data }, { on := 6, ground := Ground.data }], guard := none } : Oper)) (v := ?_) rfl (by kernel_rfl) (by kernel_rfl) (by kernel_rfl) (fun _ _ _ h => h) (Or.inl ⟨by rfl, ?_⟩) hHeld ?_
                rotate_left
                · (intro w1 hSw; (try dsimp only at hSw); go_simp; all_goals with_reducible rfl)
                (try go_frame)
                refine wpAnyH_take (i := 8) (oi := ({ dst := some 113, op := Op.move (Operand.tmp 112), type := 4, pos := "law.go:74", after := #[{ on := 7, ground := Ground.data }, { on := 1, ground := Ground.chain }], guard := none } : Oper)) (v := ?_) rfl (by kernel_rfl) (by kernel_rfl) (by kernel_rfl) (fun _ _ _ h => h) (Or.inl ⟨by rfl, ?_⟩) hHeld ?_
                rotate_left
                · (intro w1 hSw; (try dsimp only at hSw); go_simp; all_goals with_reducible rfl)
                (try go_frame)
                refine wpAnyH_take (i := 9) (oi := ({ dst := some 114, op := Op.move (Operand.tmp 7), type := 54, pos := "law.go:74", after := #[{ on := 8, ground := Ground.guard }], guard := some (8, false) } : Oper)) (v := ?_) rfl (by kernel_rfl) (by kernel_rfl) (by kernel_rfl) (fun _ _ _ h => h) (Or.inl ⟨by rfl, ?_⟩) hHeld ?_
                rotate_left
                · (intro w1 hSw; (try dsimp only at hSw); go_simp; all_goals with_reducible rfl)
                (try go_frame)
                refine wpAnyH_take (i := 11) (oi := ({ dst := some 116, op := Op.move (Operand.tmp 8), type := 56, pos := "law.go:74", after := #[{ on := 8, ground := Ground.guard }], guard := some (8, false) } : Oper)) (v := ?_) rfl (by kernel_rfl) (by kernel_rfl) (by kernel_rfl) (fun _ _ _ h => h) (Or.inl ⟨by rfl, ?_⟩) hHeld ?_
                rotate_left
                · (intro w1 hSw; (try dsimp only at hSw); go_simp; all_goals with_reducible rfl)
                (try go_frame)
                refine wpAnyH_take (i := 12) (oi := ({ dst := some 117, op := Op.nilCheck (Operand.tmp 116), type := 0, pos := "law.go:74", after := #[{ on := 11, ground := Ground.data }, { on := 8, ground := Ground.guard }], guard := some (8, false) } : Oper)) (v := ?_) rfl (by kernel_rfl) (by kernel_rfl) (by kernel_rfl) (fun _ _ _ h => h) (Or.inl ⟨by rfl, ?_⟩) hHeld ?_
                rotate_left
                · (intro w1 hSw; (try dsimp only at hSw); go_simp; all_goals with_reducible rfl)
                (try go_frame)
                refine wpAnyH_take (i := 13) (oi := ({ dst := some 118, op := Op.fieldAddr 64 (Operand.tmp 117) 1, type := 0, pos := "law.go:74", after := #[{ on := 12, ground := Ground.data }, { on := 8, ground := Ground.guard }], guard := some (8, false) } : Oper)) (v := ?_) rfl (by kernel_rfl) (by kernel_rfl) (by kernel_rfl) (fun _ _ _ h => h) (Or.inl ⟨by rfl, ?_⟩) hHeld ?_
                rotate_left
                · (intro w1 hSw; (try dsimp only at hSw); go_simp; all_goals with_reducible rfl)
                (try go_frame)
                refine wpAnyH_take (i := 14) (oi := ({ dst := some 119, op := Op.load 62 (Operand.tmp 118), type := 62, pos := "law.go:74", after := #[{ on := 13, ground := Ground.data }, { on := 8, ground := Ground.guard }], guard := some (8, false) } : Oper)) (v := ?_) rfl (by kernel_rfl) (by kernel_rfl) (by kernel_rfl) (fun _ _ _ h => h) (Or.inl ⟨by rfl, ?_⟩) hHeld ?_
                rotate_left
                · (intro w1 hSw; (try dsimp only at hSw); go_simp; all_goals with_reducible rfl)
                (try go_frame)
                refine wpAnyH_ready (rs := [10]) (by kernel_rfl) (by simp) ?_
                refine AllReadyH.cons (o := ({ dst := some 115, op := Op.call { callee := Callee.value (Operand.func 29), args := #[Operand.tmp 114], argTypes := #[54] }, type := 71, pos := "law.go:74", after := #[{ on := 9, ground := Ground.data }, { on := 8, ground := Ground.chain }, { on := 8, ground := Ground.guard }], guard := some (8, false) } : Oper)) rfl (fun K hK => ?_) AllReadyH.nil
                go_simp
                go_wp2_with (go_at_call 29; (with_reducible refine (KAl.out _ (And.left hHeld)).mono ?_); rintro en v21 ⟨Aq, cq, rfl, hRq, hcq, hbq⟩; have BQ := Lib.hid (below_call (And.left hHeld) hbq); have RQ := Lib.hid hRq; have CQ := Lib.hid hcq; clear hRq hcq hbq)
                refine hK.out _ _ ?_ (fun hHeld2 => ?_)
                · exact HKY.out _ BQ.out
                clear hK K hHeld
                have hHeld := hHeld2
                clear hHeld2
                (try go_frame)
                refine wpAnyH_ready (rs := [15]) (by kernel_rfl) (by simp) ?_
                refine AllReadyH.cons (o := ({ dst := some 120, op := Op.call { callee := Callee.value (Operand.func 28), args := #[Operand.tmp 115, Operand.tmp 119], argTypes := #[71, 62] }, type := 4, pos := "law.go:74", after := #[{ on := 10, ground := Ground.data }, { on := 14, ground := Ground.data }, { on := 10, ground := Ground.chain }, { on := 8, ground := Ground.guard }], guard := some (8, false) } : Oper)) rfl (fun K hK => ?_) AllReadyH.nil
                go_simp
                go_wp2_with (go_at_call 28; (with_reducible refine (KSm.out _ Aq cq BQ.out RQ.out CQ.out).mono ?_); rintro en v22 ⟨rfl, hbs⟩; have BS := Lib.hid (BQ.out.trans (hbs.mono BQ.out.size)); clear hbs)
                refine hK.out _ _ ?_ (fun hHeld2 => ?_)
                · exact HKY.out _ BS.out
                clear hK K hHeld
                have hHeld := hHeld2
                clear hHeld2
                (try go_frame)
                refine wpAnyH_take (i := 16) (oi := ({ dst := some 121, op := Op.unOp UnOp.not 4 (Operand.tmp 120), type := 4, pos := "law.go:74", after := #[{ on := 15, ground := Ground.data }, { on := 8, ground := Ground.guard }], guard := some (8, false) } : Oper)) (v := ?_) rfl (by kernel_rfl) (by kernel_rfl) (by kernel_rfl) (fun _ _ _ h => h) (Or.inl ⟨by rfl, ?_⟩) hHeld ?_
                rotate_left
                · (intro w1 hSw; (try dsimp only at hSw); go_simp; all_goals with_reducible rfl)
                (try go_frame)
                refine wpAnyH_take (i := 17) (oi := ({ dst := some 122, op := Op.pick (Operand.tmp 113) (Operand.const (Value.bool true)) (Operand.tmp 121), type := 4, pos := "law.go:74", after := #[{ on := 8, ground := Ground.data }, { on := 16, ground := Ground.data }], guard := none } : Oper)) (v := ?_) rfl (by kernel_rfl) (by kernel_rfl) (by kernel_rfl) (fun _ _ _ h => h) (Or.inl ⟨by rfl, ?_⟩) hHeld ?_
                rotate_left
                · (intro w1 hSw; (try dsimp only at hSw); go_simp; all_goals with_reducible rfl)
                (try go_frame)
                refine wpAnyH_done (by kernel_rfl) ?_ _
                refine NoPanic.normal ?_
                (try go_frame)
                go_wp2_with fail
                go_roundw
                case rel => exact ⟨k + 1, _, _, _, by omega, by simp, J11.out.below BS.out, HPB.out, by omega⟩
                case measure => simp [intOf]; omega
            · have HPB := Lib.hid (HE.out.rem hb8 (pfV q B) (pfN q B))
              have hlp := remLE_len (pfV q B) (pfN q B) HE.out.asc
              have HBX : Hid (∀ W : World, W.heap[wK.heap.size]? = some (.cells #[.int .i64 q.kind, .int .u8 q.raw, .int .u64 (hi q.v), .int .u64 (lo q.v), .int .i64 q.n, .int .i64 q.id] 59 (0, 0)) → W.heap[D]? = some (.cells #[.int .u64 (hi (pfV q B)), .int .u64 (lo (pfV q B))] 29 (0, 0)) → W.cell? ⟨wK.heap.size, 5, none⟩ = some (.int .i64 q.id) ∧ W.cell? ⟨D, 0, none⟩ = some (.int .u64 (hi (pfV q B))) ∧ W.cell? ⟨D, 1, none⟩ = some (.int .u64 (lo (pfV q B)))) := Lib.hid fun W h6 h7 => ⟨blk_cell h6 5 _ rfl, blk_cell h7 0 _ rfl, blk_cell h7 1 _ rfl⟩
              rcases hg with e | e
              all_goals
                have hk7 := hkk.symm.trans e
                clear e hkr hkk
                go_upto_region 22 with fail
                clear x80
                go_region_held3 (fun W => W.cell? ⟨wK.heap.size, 5, none⟩ = some (.int .i64 q.id) ∧ W.cell? ⟨D, 0, none⟩ = some (.int .u64 (hi (pfV q B))) ∧ W.cell? ⟨D, 1, none⟩ = some (.int .u64 (lo (pfV q B))))
                  (first
                    | exact HBX.out _ X11.out Z11.out
                    | exact HBX.out _ X10.out Z10.out
                    | exact HBX.out _ X8.out Z8.out)
                  (first
                    | (go_at_call 23; (with_reducible refine (kx_rem Jd.out HE.out (by omega) hb8 (pfV q B) (pfV_128 q B HQK.out) (pfN q B)).mono ?_); rintro e w10 ⟨rfl, ⟨F1, hJ1⟩, hfr⟩; have J10 := Lib.hid hJ1; have X10 := Lib.hid (fr_keep hfr X8.out (fun h => by have := HFK.out _ h; omega)); have Z10 := Lib.hid (fr_keep hfr Z8.out (fun h => by have := HFK.out _ h; have := HDK.out; omega)); clear hJ1 hfr)
                    | (go_at_call 24; (with_reducible refine (ju_remE HR.out J10.out (by omega) (pfV q B) (pfV_128 q B HQK.out) (pfN q B)).mono ?_); rintro e w11 ⟨rfl, hJ2, hfr⟩; have J11 := Lib.hid hJ2; have X11 := Lib.hid (fr_keep hfr X10.out (fun h => by have := HYK.out; omega)); have Z11 := Lib.hid (fr_keep hfr Z10.out (fun h => by have := HYK.out; have := HDK.out; omega)); clear hJ2 hfr))
                go_wp2_with fail
                have J12 := Lib.hid J11.out.up
                obtain ⟨Ay, cy, hLn, hAl, hYc, hSm⟩ := tail_factsU HA.out J12.out HPB.out hb8 (by omega) (by omega)
                have hlT := hlp
                obtain ⟨ln, hln⟩ : ∃ ln, ln = (remLE (pfV q B) (pfN q B) L).length := ⟨_, rfl⟩
                rw [← hln] at hLn hAl hYc hSm
                have KLn := Lib.hid hLn
                have KAl := Lib.hid hAl
                have KSm := Lib.hid hSm
                have HKY : Hid (∀ w', Below w11.heap.size w11 w' → Below w11.heap.size w11 w' ∧ w'.cell? ⟨w1.heap.size, 1, none⟩ = some (.slice Ay ln cy)) := Lib.hid fun w' hb => ⟨hb, hYc w' hb⟩
                clear hLn hAl hYc hSm hln
                go_upto_region 24 with fail
                refine wp_region_noPanic ?_
                refine wp_region_held_drew (S := fun w' => Below w11.heap.size w11 w' ∧ w'.cell? ⟨w1.heap.size, 1, none⟩ = some (.slice Ay ln cy)) (by kernel_rfl) (HKY.out _ (Below.drew (Below.refl _ _))) (fun hHeld => ?_)
                refine wpAnyH_take (i := 0) (oi := ({ dst := some 105, op := Op.move (Operand.tmp 7), type := 54, pos := "law.go:74", after := #[], guard := none } : Oper)) (v := ?_) rfl (by kernel_rfl) (by kernel_rfl) (by kernel_rfl) (fun _ _ _ h => h) (Or.inl ⟨by rfl, ?_⟩) hHeld ?_
                rotate_left
                · (intro w1 hSw; (try dsimp only at hSw); go_simp; all_goals with_reducible rfl)
                (try go_frame)
                refine wpAnyH_take (i := 2) (oi := ({ dst := some 107, op := Op.move (Operand.tmp 8), type := 56, pos := "law.go:74", after := #[], guard := none } : Oper)) (v := ?_) rfl (by kernel_rfl) (by kernel_rfl) (by kernel_rfl) (fun _ _ _ h => h) (Or.inl ⟨by rfl, ?_⟩) hHeld ?_
                rotate_left
                · (intro w1 hSw; (try dsimp only at hSw); go_simp; all_goals with_reducible rfl)
                (try go_frame)
                refine wpAnyH_take (i := 3) (oi := ({ dst := some 108, op := Op.nilCheck (Operand.tmp 107), type := 0, pos := "law.go:74", after := #[{ on := 2, ground := Ground.data }], guard := none } : Oper)) (v := ?_) rfl (by kernel_rfl) (by kernel_rfl) (by kernel_rfl) (fun _ _ _ h => h) (Or.inl ⟨by rfl, ?_⟩) hHeld ?_
                rotate_left
                · (intro w1 hSw; (try dsimp only at hSw); go_simp; all_goals with_reducible rfl)
                (try go_frame)
                refine wpAnyH_take (i := 4) (oi := ({ dst := some 109, op := Op.fieldAddr 64 (Operand.tmp 108) 1, type := 0, pos := "law.go:74", after := #[{ on := 3, ground := Ground.data }], guard := none } : Oper)) (v := ?_) rfl (by kernel_rfl) (by kernel_rfl) (by kernel_rfl) (fun _ _ _ h => h) (Or.inl ⟨by rfl, ?_⟩) hHeld ?_
                rotate_left
                · (intro w1 hSw; (try dsimp only at hSw); go_simp; all_goals with_reducible rfl)
                (try go_frame)
                refine wpAnyH_take (i := 5) (oi := ({ dst := some 110, op := Op.load 62 (Operand.tmp 109), type := 62, pos := "law.go:74", after := #[{ on := 4, ground := Ground.data }], guard := none } : Oper)) (v := ?_) rfl (by kernel_rfl) (by kernel_rfl) (by kernel_rfl) (fun _ _ _ h => h) (Or.inl ⟨by rfl, ?_⟩) hHeld ?_
                rotate_left
                · (intro w1 hSw; (try dsimp only at hSw); go_simp; all_goals with_reducible rfl)
                (try go_frame)
                refine wpAnyH_take (i := 6) (oi := ({ dst := some 111, op := Op.call { callee := Callee.builtin Builtin.len, args := #[Operand.tmp 110], argTypes := #[62] }, type := 3, pos := "law.go:74", after := #[{ on := 5, ground := Ground.data }], guard := none } : Oper)) (v := ?_) rfl (by kernel_rfl) (by kernel_rfl) (by kernel_rfl) (fun _ _ _ h => h) (Or.inl ⟨by rfl, ?_⟩) hHeld ?_
                rotate_left
                · (intro w1 hSw; (try dsimp only at hSw); go_simp; all_goals with_reducible rfl)
                (try go_frame)
                refine wpAnyH_ready (rs := [1]) (by kernel_rfl) (by simp) ?_
                refine AllReadyH.cons (o := ({ dst := some 106, op := Op.call { callee := Callee.value (Operand.func 27), args := #[Operand.tmp 105], argTypes := #[54] }, type := 3, pos := "law.go:74", after := #[{ on := 0, ground := Ground.data }], guard := none } : Oper)) rfl (fun K hK => ?_) AllReadyH.nil
                go_simp
                go_wp2_with (go_at_call 27; (with_reducible refine (KLn.out _ (And.left hHeld)).mono ?_); rintro en v20 ⟨rfl, rfl⟩)
                refine hK.out _ _ ?_ (fun hHeld2 => ?_)
                · exact hHeld
                clear hK K hHeld
                have hHeld := hHeld2
                clear hHeld2
                (try go_frame)
                refine wpAnyH_take (i := 7) (oi := ({ dst := some 112, op := Op.binOp BinOp.neq 3 (Operand.tmp 106) (Operand.tmp 111) 3, type := 4, pos := "law.go:74", after := #[{ on := 1, ground := Ground.data }, { on := 6, ground := Ground.data }], guard := none } : Oper)) (v := ?_) rfl (by kernel_rfl) (by kernel_rfl) (by kernel_rfl) (fun _ _ _ h => h) (Or.inl ⟨by rfl, ?_⟩) hHeld ?_
                rotate_left
                · (intro w1 hSw; (try dsimp only at hSw); go_simp; all_goals with_reducible rfl)
                (try go_frame)
                refine wpAnyH_take (i := 8) (oi := ({ dst := some 113, op := Op.move (Operand.tmp 112), type := 4, pos := "law.go:74", after := #[{ on := 7, ground := Ground.data }, { on := 1, ground := Ground.chain }], guard := none } : Oper)) (v := ?_) rfl (by kernel_rfl) (by kernel_rfl) (by kernel_rfl) (fun _ _ _ h => h) (Or.inl ⟨by rfl, ?_⟩) hHeld ?_
                rotate_left
                · (intro w1 hSw; (try dsimp only at hSw); go_simp; all_goals with_reducible rfl)
                (try go_frame)
                refine wpAnyH_take (i := 9) (oi := ({ dst := some 114, op := Op.move (Operand.tmp 7), type := 54, pos := "law.go:74", after := #[{ on := 8, ground := Ground.guard }], guard := some (8, false) } : Oper)) (v := ?_) rfl (by kernel_rfl) (by kernel_rfl) (by kernel_rfl) (fun _ _ _ h => h) (Or.inl ⟨by rfl, ?_⟩) hHeld ?_
                rotate_left
                · (intro w1 hSw; (try dsimp only at hSw); go_simp; all_goals with_reducible rfl)
                (try go_frame)
                refine wpAnyH_take (i := 11) (oi := ({ dst := some 116, op := Op.move (Operand.tmp 8), type := 56, pos := "law.go:74", after := #[{ on := 8, ground := Ground.guard }], guard := some (8, false) } : Oper)) (v := ?_) rfl (by kernel_rfl) (by kernel_rfl) (by kernel_rfl) (fun _ _ _ h => h) (Or.inl ⟨by rfl, ?_⟩) hHeld ?_
                rotate_left
                · (intro w1 hSw; (try dsimp only at hSw); go_simp; all_goals with_reducible rfl)
                (try go_frame)
                refine wpAnyH_take (i := 12) (oi := ({ dst := some 117, op := Op.nilCheck (Operand.tmp 116), type := 0, pos := "law.go:74", after := #[{ on := 11, ground := Ground.data }, { on := 8, ground := Ground.guard }], guard := some (8, false) } : Oper)) (v := ?_) rfl (by kernel_rfl) (by kernel_rfl) (by kernel_rfl) (fun _ _ _ h => h) (Or.inl ⟨by rfl, ?_⟩) hHeld ?_
                rotate_left
                · (intro w1 hSw; (try dsimp only at hSw); go_simp; all_goals with_reducible rfl)
                (try go_frame)
                refine wpAnyH_take (i := 13) (oi := ({ dst := some 118, op := Op.fieldAddr 64 (Operand.tmp 117) 1, type := 0, pos := "law.go:74", after := #[{ on := 12, ground := Ground.data }, { on := 8, ground := Ground.guard }], guard := some (8, false) } : Oper)) (v := ?_) rfl (by kernel_rfl) (by kernel_rfl) (by kernel_rfl) (fun _ _ _ h => h) (Or.inl ⟨by rfl, ?_⟩) hHeld ?_
                rotate_left
                · (intro w1 hSw; (try dsimp only at hSw); go_simp; all_goals with_reducible rfl)
                (try go_frame)
                refine wpAnyH_take (i := 14) (oi := ({ dst := some 119, op := Op.load 62 (Operand.tmp 118), type := 62, pos := "law.go:74", after := #[{ on := 13, ground := Ground.data }, { on := 8, ground := Ground.guard }], guard := some (8, false) } : Oper)) (v := ?_) rfl (by kernel_rfl) (by kernel_rfl) (by kernel_rfl) (fun _ _ _ h => h) (Or.inl ⟨by rfl, ?_⟩) hHeld ?_
                rotate_left
                · (intro w1 hSw; (try dsimp only at hSw); go_simp; all_goals with_reducible rfl)
                (try go_frame)
                refine wpAnyH_ready (rs := [10]) (by kernel_rfl) (by simp) ?_
                refine AllReadyH.cons (o := ({ dst := some 115, op := Op.call { callee := Callee.value (Operand.func 29), args := #[Operand.tmp 114], argTypes := #[54] }, type := 71, pos := "law.go:74", after := #[{ on := 9, ground := Ground.data }, { on := 8, ground := Ground.chain }, { on := 8, ground := Ground.guard }], guard := some (8, false) } : Oper)) rfl (fun K hK => ?_) AllReadyH.nil
                go_simp
                go_wp2_with (go_at_call 29; (with_reducible refine (KAl.out _ (And.left hHeld)).mono ?_); rintro en v21 ⟨Aq, cq, rfl, hRq, hcq, hbq⟩; have BQ := Lib.hid (below_call (And.left hHeld) hbq); have RQ := Lib.hid hRq; have CQ := Lib.hid hcq; clear hRq hcq hbq)
                refine hK.out _ _ ?_ (fun hHeld2 => ?_)
                · exact HKY.out _ BQ.out
                clear hK K hHeld
                have hHeld := hHeld2
                clear hHeld2
                (try go_frame)
                refine wpAnyH_ready (rs := [15]) (by kernel_rfl) (by simp) ?_
                refine AllReadyH.cons (o := ({ dst := some 120, op := Op.call { callee := Callee.value (Operand.func 28), args := #[Operand.tmp 115, Operand.tmp 119], argTypes := #[71, 62] }, type := 4, pos := "law.go:74", after := #[{ on := 10, ground := Ground.data }, { on := 14, ground := Ground.data }, { on := 10, ground := Ground.chain }, { on := 8, ground := Ground.guard }], guard := some (8, false) } : Oper)) rfl (fun K hK => ?_) AllReadyH.nil
                go_simp
                go_wp2_with (go_at_call 28; (with_reducible refine (KSm.out _ Aq cq BQ.out RQ.out CQ.out).mono ?_); rintro en v22 ⟨rfl, hbs⟩; have BS := Lib.hid (BQ.out.trans (hbs.mono BQ.out.size)); clear hbs)
                refine hK.out _ _ ?_ (fun hHeld2 => ?_)
                · exact HKY.out _ BS.out
                clear hK K hHeld
                have hHeld := hHeld2
                clear hHeld2
                (try go_frame)
                refine wpAnyH_take (i := 16) (oi := ({ dst := some 121, op := Op.unOp UnOp.not 4 (Operand.tmp 120), type := 4, pos := "law.go:74", after := #[{ on := 15, ground := Ground.data }, { on := 8, ground := Ground.guard }], guard := some (8, false) } : Oper)) (v := ?_) rfl (by kernel_rfl) (by kernel_rfl) (by kernel_rfl) (fun _ _ _ h => h) (Or.inl ⟨by rfl, ?_⟩) hHeld ?_
                rotate_left
                · (intro w1 hSw; (try dsimp only at hSw); go_simp; all_goals with_reducible rfl)
                (try go_frame)
                refine wpAnyH_take (i := 17) (oi := ({ dst := some 122, op := Op.pick (Operand.tmp 113) (Operand.const (Value.bool true)) (Operand.tmp 121), type := 4, pos := "law.go:74", after := #[{ on := 8, ground := Ground.data }, { on := 16, ground := Ground.data }], guard := none } : Oper)) (v := ?_) rfl (by kernel_rfl) (by kernel_rfl) (by kernel_rfl) (fun _ _ _ h => h) (Or.inl ⟨by rfl, ?_⟩) hHeld ?_
                rotate_left
                · (intro w1 hSw; (try dsimp only at hSw); go_simp; all_goals with_reducible rfl)
                (try go_frame)
                refine wpAnyH_done (by kernel_rfl) ?_ _
                refine NoPanic.normal ?_
                (try go_frame)
                go_wp2_with fail
                go_roundw
                case rel => exact ⟨k + 1, _, _, _, by omega, by simp, J12.out.below BS.out, HPB.out, by omega⟩
                case measure => simp [intOf]; omega
            · have hgx := kx_get J8.out HE.out hb8 (pfV q B) (pfV_128 q B HQK.out) (pfN q B)
              have hgy : Hid (∀ W', Below w8.heap.size w8 W' → Calls Try.prog 26 #[.pointer (some ⟨w1.heap.size, 0, none⟩), .agg #[.int .u64 (hi (pfV q B)), .int .u64 (lo (pfV q B))], .int .i64 (pfN q B)] W' (RetX (.tuple #[.int .i64 (getLE (pfV q B) (pfN q B) L).1, .bool (getLE (pfV q B) (pfN q B) L).2]) W')) := Lib.hid fun W' hb => ju_getE HG.out (J8.out.below hb) (by omega) (pfV q B) (pfV_128 q B HQK.out) (pfN q B)
              generalize getLE (pfV q B) (pfN q B) L = gg at hgx hgy
              obtain ⟨g1, g2⟩ := gg
              dsimp only at hgx hgy
              have z80 := blk_cell Z8.out 0 _ rfl
              have z81 := blk_cell Z8.out 1 _ rfl
              rcases hg with e | e
              all_goals
                have hk7 := hkk.symm.trans e
                clear e hkr hkk
                go_wp2_with fail
                refine hgx.mono ?_
                rintro e w10 ⟨rfl, h10⟩
                have B10 := Lib.hid h10
                have q10 := (h10.block _ (heap_ltU Z8.out)).trans Z8.out
                have y0 := blk_cell q10 0 _ rfl
                have y1 := blk_cell q10 1 _ rfl
                clear h10 q10 z80 z81 x80 hgx
                go_wp2_with fail
                refine (hgy.out _ B10.out).mono ?_
                rintro e w11 ⟨rfl, h11⟩
                have B11 := Lib.hid (B10.out.trans (h11.mono B10.out.size))
                have J12 := Lib.hid (J8.out.below B11.out).up
                have EE := HE
                clear h11 y0 y1
                cases g2
                all_goals
                  obtain ⟨Ay, cy, hLn, hAl, hYc, hSm⟩ := tail_factsU HA.out J12.out EE.out hb8 (by omega) (by omega)
                  have hlT := Nat.le_refl L.length
                  obtain ⟨ln, hln⟩ : ∃ ln, ln = (L).length := ⟨_, rfl⟩
                  rw [← hln] at hLn hAl hYc hSm
                  have KLn := Lib.hid hLn
                  have KAl := Lib.hid hAl
                  have KSm := Lib.hid hSm
                  have HKY : Hid (∀ w', Below w11.heap.size w11 w' → Below w11.heap.size w11 w' ∧ w'.cell? ⟨w1.heap.size, 1, none⟩ = some (.slice Ay ln cy)) := Lib.hid fun w' hb => ⟨hb, hYc w' hb⟩
                  clear hLn hAl hYc hSm hln
                  go_upto_region 24 with fail
                  refine wp_region_noPanic ?_
                  refine wp_region_held_drew (S := fun w' => Below w11.heap.size w11 w' ∧ w'.cell? ⟨w1.heap.size, 1, none⟩ = some (.slice Ay ln cy)) (by kernel_rfl) (HKY.out _ (Below.drew (Below.refl _ _))) (fun hHeld => ?_)
                  refine wpAnyH_take (i := 0) (oi := ({ dst := some 105, op := Op.move (Operand.tmp 7), type := 54, pos := "law.go:74", after := #[], guard := none } : Oper)) (v := ?_) rfl (by kernel_rfl) (by kernel_rfl) (by kernel_rfl) (fun _ _ _ h => h) (Or.inl ⟨by rfl, ?_⟩) hHeld ?_
                  rotate_left
                  · (intro w1 hSw; (try dsimp only at hSw); go_simp; all_goals with_reducible rfl)
                  (try go_frame)
                  refine wpAnyH_take (i := 2) (oi := ({ dst := some 107, op := Op.move (Operand.tmp 8), type := 56, pos := "law.go:74", after := #[], guard := none } : Oper)) (v := ?_) rfl (by kernel_rfl) (by kernel_rfl) (by kernel_rfl) (fun _ _ _ h => h) (Or.inl ⟨by rfl, ?_⟩) hHeld ?_
                  rotate_left
                  · (intro w1 hSw; (try dsimp only at hSw); go_simp; all_goals with_reducible rfl)
                  (try go_frame)
                  refine wpAnyH_take (i := 3) (oi := ({ dst := some 108, op := Op.nilCheck (Operand.tmp 107), type := 0, pos := "law.go:74", after := #[{ on := 2, ground := Ground.data }], guard := none } : Oper)) (v := ?_) rfl (by kernel_rfl) (by kernel_rfl) (by kernel_rfl) (fun _ _ _ h => h) (Or.inl ⟨by rfl, ?_⟩) hHeld ?_
                  rotate_left
                  · (intro w1 hSw; (try dsimp only at hSw); go_simp; all_goals with_reducible rfl)
                  (try go_frame)
                  refine wpAnyH_take (i := 4) (oi := ({ dst := some 109, op := Op.fieldAddr 64 (Operand.tmp 108) 1, type := 0, pos := "law.go:74", after := #[{ on := 3, ground := Ground.data }], guard := none } : Oper)) (v := ?_) rfl (by kernel_rfl) (by kernel_rfl) (by kernel_rfl) (fun _ _ _ h => h) (Or.inl ⟨by rfl, ?_⟩) hHeld ?_
                  rotate_left
                  · (intro w1 hSw; (try dsimp only at hSw); go_simp; all_goals with_reducible rfl)
                  (try go_frame)
                  refine wpAnyH_take (i := 5) (oi := ({ dst := some 110, op := Op.load 62 (Operand.tmp 109), type := 62, pos := "law.go:74", after := #[{ on := 4, ground := Ground.data }], guard := none } : Oper)) (v := ?_) rfl (by kernel_rfl) (by kernel_rfl) (by kernel_rfl) (fun _ _ _ h => h) (Or.inl ⟨by rfl, ?_⟩) hHeld ?_
                  rotate_left
                  · (intro w1 hSw; (try dsimp only at hSw); go_simp; all_goals with_reducible rfl)
                  (try go_frame)
                  refine wpAnyH_take (i := 6) (oi := ({ dst := some 111, op := Op.call { callee := Callee.builtin Builtin.len, args := #[Operand.tmp 110], argTypes := #[62] }, type := 3, pos := "law.go:74", after := #[{ on := 5, ground := Ground.data }], guard := none } : Oper)) (v := ?_) rfl (by kernel_rfl) (by kernel_rfl) (by kernel_rfl) (fun _ _ _ h => h) (Or.inl ⟨by rfl, ?_⟩) hHeld ?_
                  rotate_left
                  · (intro w1 hSw; (try dsimp only at hSw); go_simp; all_goals with_reducible rfl)
                  (try go_frame)
                  refine wpAnyH_ready (rs := [1]) (by kernel_rfl) (by simp) ?_
                  refine AllReadyH.cons (o := ({ dst := some 106, op := Op.call { callee := Callee.value (Operand.func 27), args := #[Operand.tmp 105], argTypes := #[54] }, type := 3, pos := "law.go:74", after := #[{ on := 0, ground := Ground.data }], guard := none } : Oper)) rfl (fun K hK => ?_) AllReadyH.nil
                  go_simp
                  go_wp2_with (go_at_call 27; (with_reducible refine (KLn.out _ (And.left hHeld)).mono ?_); rintro en v20 ⟨rfl, rfl⟩)
                  refine hK.out _ _ ?_ (fun hHeld2 => ?_)
                  · exact hHeld
                  clear hK K hHeld
                  have hHeld := hHeld2
                  clear hHeld2
                  (try go_frame)
                  refine wpAnyH_take (i := 7) (oi := ({ dst := some 112, op := Op.binOp BinOp.neq 3 (Operand.tmp 106) (Operand.tmp 111) 3, type := 4, pos := "law.go:74", after := #[{ on := 1, ground := Ground.data }, { on := 6, ground := Ground.data }], guard := none } : Oper)) (v := ?_) rfl (by kernel_rfl) (by kernel_rfl) (by kernel_rfl) (fun _ _ _ h => h) (Or.inl ⟨by rfl, ?_⟩) hHeld ?_
                  rotate_left
                  · (intro w1 hSw; (try dsimp only at hSw); go_simp; all_goals with_reducible rfl)
                  (try go_frame)
                  refine wpAnyH_take (i := 8) (oi := ({ dst := some 113, op := Op.move (Operand.tmp 112), type := 4, pos := "law.go:74", after := #[{ on := 7, ground := Ground.data }, { on := 1, ground := Ground.chain }], guard := none } : Oper)) (v := ?_) rfl (by kernel_rfl) (by kernel_rfl) (by kernel_rfl) (fun _ _ _ h => h) (Or.inl ⟨by rfl, ?_⟩) hHeld ?_
                  rotate_left
                  · (intro w1 hSw; (try dsimp only at hSw); go_simp; all_goals with_reducible rfl)
                  (try go_frame)
                  refine wpAnyH_take (i := 9) (oi := ({ dst := some 114, op := Op.move (Operand.tmp 7), type := 54, pos := "law.go:74", after := #[{ on := 8, ground := Ground.guard }], guard := some (8, false) } : Oper)) (v := ?_) rfl (by kernel_rfl) (by kernel_rfl) (by kernel_rfl) (fun _ _ _ h => h) (Or.inl ⟨by rfl, ?_⟩) hHeld ?_
                  rotate_left
                  · (intro w1 hSw; (try dsimp only at hSw); go_simp; all_goals with_reducible rfl)
                  (try go_frame)
                  refine wpAnyH_take (i := 11) (oi := ({ dst := some 116, op := Op.move (Operand.tmp 8), type := 56, pos := "law.go:74", after := #[{ on := 8, ground := Ground.guard }], guard := some (8, false) } : Oper)) (v := ?_) rfl (by kernel_rfl) (by kernel_rfl) (by kernel_rfl) (fun _ _ _ h => h) (Or.inl ⟨by rfl, ?_⟩) hHeld ?_
                  rotate_left
                  · (intro w1 hSw; (try dsimp only at hSw); go_simp; all_goals with_reducible rfl)
                  (try go_frame)
                  refine wpAnyH_take (i := 12) (oi := ({ dst := some 117, op := Op.nilCheck (Operand.tmp 116), type := 0, pos := "law.go:74", after := #[{ on := 11, ground := Ground.data }, { on := 8, ground := Ground.guard }], guard := some (8, false) } : Oper)) (v := ?_) rfl (by kernel_rfl) (by kernel_rfl) (by kernel_rfl) (fun _ _ _ h => h) (Or.inl ⟨by rfl, ?_⟩) hHeld ?_
                  rotate_left
                  · (intro w1 hSw; (try dsimp only at hSw); go_simp; all_goals with_reducible rfl)
                  (try go_frame)
                  refine wpAnyH_take (i := 13) (oi := ({ dst := some 118, op := Op.fieldAddr 64 (Operand.tmp 117) 1, type := 0, pos := "law.go:74", after := #[{ on := 12, ground := Ground.data }, { on := 8, ground := Ground.guard }], guard := some (8, false) } : Oper)) (v := ?_) rfl (by kernel_rfl) (by kernel_rfl) (by kernel_rfl) (fun _ _ _ h => h) (Or.inl ⟨by rfl, ?_⟩) hHeld ?_
                  rotate_left
                  · (intro w1 hSw; (try dsimp only at hSw); go_simp; all_goals with_reducible rfl)
                  (try go_frame)
                  refine wpAnyH_take (i := 14) (oi := ({ dst := some 119, op := Op.load 62 (Operand.tmp 118), type := 62, pos := "law.go:74", after := #[{ on := 13, ground := Ground.data }, { on := 8, ground := Ground.guard }], guard := some (8, false) } : Oper)) (v := ?_) rfl (by kernel_rfl) (by kernel_rfl) (by kernel_rfl) (fun _ _ _ h => h) (Or.inl ⟨by rfl, ?_⟩) hHeld ?_
                  rotate_left
                  · (intro w1 hSw; (try dsimp only at hSw); go_simp; all_goals with_reducible rfl)
                  (try go_frame)
                  refine wpAnyH_ready (rs := [10]) (by kernel_rfl) (by simp) ?_
                  refine AllReadyH.cons (o := ({ dst := some 115, op := Op.call { callee := Callee.value (Operand.func 29), args := #[Operand.tmp 114], argTypes := #[54] }, type := 71, pos := "law.go:74", after := #[{ on := 9, ground := Ground.data }, { on := 8, ground := Ground.chain }, { on := 8, ground := Ground.guard }], guard := some (8, false) } : Oper)) rfl (fun K hK => ?_) AllReadyH.nil
                  go_simp
                  go_wp2_with (go_at_call 29; (with_reducible refine (KAl.out _ (And.left hHeld)).mono ?_); rintro en v21 ⟨Aq, cq, rfl, hRq, hcq, hbq⟩; have BQ := Lib.hid (below_call (And.left hHeld) hbq); have RQ := Lib.hid hRq; have CQ := Lib.hid hcq; clear hRq hcq hbq)
                  refine hK.out _ _ ?_ (fun hHeld2 => ?_)
                  · exact HKY.out _ BQ.out
                  clear hK K hHeld
                  have hHeld := hHeld2
                  clear hHeld2
                  (try go_frame)
                  refine wpAnyH_ready (rs := [15]) (by kernel_rfl) (by simp) ?_
                  refine AllReadyH.cons (o := ({ dst := some 120, op := Op.call { callee := Callee.value (Operand.func 28), args := #[Operand.tmp 115, Operand.tmp 119], argTypes := #[71, 62] }, type := 4, pos := "law.go:74", after := #[{ on := 10, ground := Ground.data }, { on := 14, ground := Ground.data }, { on := 10, ground := Ground.chain }, { on := 8, ground := Ground.guard }], guard := some (8, false) } : Oper)) rfl (fun K hK => ?_) AllReadyH.nil
                  go_simp
                  go_wp2_with (go_at_call 28; (with_reducible refine (KSm.out _ Aq cq BQ.out RQ.out CQ.out).mono ?_); rintro en v22 ⟨rfl, hbs⟩; have BS := Lib.hid (BQ.out.trans (hbs.mono BQ.out.size)); clear hbs)
                  refine hK.out _ _ ?_ (fun hHeld2 => ?_)
                  · exact HKY.out _ BS.out
                  clear hK K hHeld
                  have hHeld := hHeld2
                  clear hHeld2
                  (try go_frame)
                  refine wpAnyH_take (i := 16) (oi := ({ dst := some 121, op := Op.unOp UnOp.not 4 (Operand.tmp 120), type := 4, pos := "law.go:74", after := #[{ on := 15, ground := Ground.data }, { on := 8, ground := Ground.guard }], guard := some (8, false) } : Oper)) (v := ?_) rfl (by kernel_rfl) (by kernel_rfl) (by kernel_rfl) (fun _ _ _ h => h) (Or.inl ⟨by rfl, ?_⟩) hHeld ?_
                  rotate_left
                  · (intro w1 hSw; (try dsimp only at hSw); go_simp; all_goals with_reducible rfl)
                  (try go_frame)
                  refine wpAnyH_take (i := 17) (oi := ({ dst := some 122, op := Op.pick (Operand.tmp 113) (Operand.const (Value.bool true)) (Operand.tmp 121), type := 4, pos := "law.go:74", after := #[{ on := 8, ground := Ground.data }, { on := 16, ground := Ground.data }], guard := none } : Oper)) (v := ?_) rfl (by kernel_rfl) (by kernel_rfl) (by kernel_rfl) (fun _ _ _ h => h) (Or.inl ⟨by rfl, ?_⟩) hHeld ?_
                  rotate_left
                  · (intro w1 hSw; (try dsimp only at hSw); go_simp; all_goals with_reducible rfl)
                  (try go_frame)
                  refine wpAnyH_done (by kernel_rfl) ?_ _
                  refine NoPanic.normal ?_
                  (try go_frame)
                  go_wp2_with fail
                  go_roundw
                  case rel => exact ⟨k + 1, _, _, _, by omega, by simp, J12.out.below BS.out, EE.out, by omega⟩
                  case measure => simp [intOf]; omega
        · obtain rfl : m1 = k := by omega
          obtain ⟨kn, hnx, hny⟩ := ju_nodes HJ.out HE.out hb8 (by omega)
          have HNXX := Lib.hid hnx
          have HNY := Lib.hid hny
          clear hnx hny
          go_wp2_with fail
          refine (HNXX.out _ (Below.refl _ _)).mono ?_
          rintro e w20 ⟨rfl, rfl⟩
          go_wp2_with fail
          refine (HNY.out _ (Below.refl _ _)).mono ?_
          rintro e w21 ⟨rfl, h21⟩
          have B21 := Lib.hid (HJ.out.bl.trans (h21.mono HJ.out.bl.size))
          clear h21
          go_wp2_with fail
          go_roundw
          case rel => exact ⟨t + 1, by omega, by simp, B21.out⟩
          case measure => simp [intOf]; omega
    · obtain rfl : t = 3 := by omega
      go_wp2_with fail
      refine (ub_begun _).mono ?_
      rintro e w30 ⟨rfl, h30⟩
      have B30 := Lib.hid (HBT.out.trans (h30.mono HBT.out.size))
      have B31 := Lib.hid (B0.out.trans (B30.out.mono B0.out.size))
      clear h30
      go_wp2_with fail
      go_ret
      exact ⟨rfl, B31.out⟩
end Go.Proofs.Ytmlocfojmncghaa
