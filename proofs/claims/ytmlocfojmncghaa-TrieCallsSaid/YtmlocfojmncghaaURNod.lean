/- Layer 12: the reference's Nodes. -/
import Derived.Test.YtmlocfojmncghaaURNodP
import Derived.Test.YtmlocfojmncghaaURPutH
import Derived.Test.YtmlocfojmncghaaGOne
import Derived.Test.YtmlocfojmncghaaGWin
namespace Go.Proofs.Ytmlocfojmncghaa
open Go.RowKit
theorem rowN_cells {w : World} {base b : Nat} {T : TypeId} {A : Option Addr} {cap : Nat} {Ns : List Pth} (h : w.ownsRow base T 4 (.slice A Ns.length cap) Ns.length (rowAllU b (fun _ => 0) Ns)) {r : Nat} {x : Pth} (hx : Ns[r]? = some x) :
    ∃ g, A = some ⟨g, 0, none⟩ ∧ Ns.length ≤ cap ∧ w.cell? ⟨g, r * 4, none⟩ = some (.int .u64 (hi (pvU b x))) ∧ w.cell? ⟨g, r * 4 + 1, none⟩ = some (.int .u64 (lo (pvU b x))) ∧ w.cell? ⟨g, r * 4 + 2, none⟩ = some (.int .i64 (x.length : Int)) ∧ w.cell? ⟨g, r * 4 + 3, none⟩ = some (.int .i64 0) := by
  have hr : r < Ns.length := (List.getElem?_eq_some_iff.1 hx).1
  rcases h.2 with ⟨e0, e1⟩ | ⟨g, cap', cur, e0, hb, hg, hc, _⟩
  · omega
  · injection e0 with e1 _ e3
    subst e1; subst e3
    have key : ∀ j, j < 4 → w.cell? ⟨g, r * 4 + j, none⟩ = ([.int .u64 (hi (pvU b x)), .int .u64 (lo (pvU b x)), .int .i64 (x.length : Int), .int .i64 0] : List Value)[j]? := fun j hj => by
      rw [World.ownsRow.cellAt h (r * 4 + j) (by omega), rowAllU_get b (fun _ => 0) Ns r j x hx hj]
    exact ⟨g, rfl, hc, key 0 (by omega), key 1 (by omega), key 2 (by omega), key 3 (by omega)⟩
theorem mem_take_succ {Ns : List Pth} {r : Nat} {x p : Pth} (hx : Ns[r]? = some x) : decide (p ∈ Ns.take (r + 1)) = (decide (p ∈ Ns.take r) || decide (x = p)) := by
  rw [List.take_add_one, hx]
  by_cases h1 : p ∈ Ns.take r
  · simp [h1]
  · by_cases h2 : x = p
    · simp [h2]
    · simp [h1, h2, Ne.symm h2]
def slNod : List Nat := [26, 27, 28, 29, 30, 31, 32, 33, 34, 35, 36, 7]
set_option maxRecDepth 100000 in
set_option maxHeartbeats 8000000 in
theorem re_Nodes {w : World} {Y b n0 cap : Nat} {A : Option Addr} {L : List PE} (h : RE w Y b A n0 cap L) (hn : n0 ≤ 1000) (hb8 : b ≤ 128) (hnb : ∀ e ∈ L, e.n ≤ b) : Calls Try.prog 31 #[.pointer (some ⟨Y, 0, none⟩)] w (RetX (.int .i64 ((nodN b L).length : Int)) w) := by
  have HR := Lib.hid h
  have HNB := Lib.hid hnb
  have hc := h.c
  obtain ⟨i0, hi0, hz0, hy1, hy2⟩ := info_partsU info_rpre
  have HI0 := Lib.hid hi0
  have HZ0 := Lib.hid hz0
  have HY1 := Lib.hid hy1
  have HY2 := Lib.hid hy2
  clear h hi0 hz0 hy1 hy2 hnb
  go_enter Try.func31, Try.ntmps31
  go_wp2_with fail
  clear hc
  go_loopw [3, 16] (fun v i W => ∃ (k : Nat) (Ns : List Pth) (A1 : Option Addr) (c1 : Nat), k ≤ n0 ∧ i = .int .i64 k ∧ v = .slice A1 Ns.length c1 ∧ Ns = nodN b (L.take k) ∧ Below w.heap.size w W ∧ W.ownsRow w.heap.size 76 4 (.slice A1 Ns.length c1) Ns.length (rowAllU b (fun _ => 0) Ns) ∧ Ns.length ≤ 129 * k ∧ ∀ p ∈ Ns, p.length ≤ b) (fun _ i _ => n0 - (intOf i).toNat)
  case atStart => exact ⟨0, [], none, 0, Nat.zero_le _, rfl, rfl, rfl, Below.refl _ _, World.ownsRow_nil _ _ _ _, Nat.le_refl _, fun p h => by cases h⟩
  case round =>
    obtain ⟨k, N0, A0, c0, hk, rfl, rfl, hN0, hb, ho, hlen, hall⟩ := hrel
    have HB := Lib.hid hb
    have HO := Lib.hid ho
    have HN0 := Lib.hid hN0
    have HALL := Lib.hid hall
    clear hb ho hN0 hall
    obtain ⟨wO, hwO⟩ : ∃ y : World, y = wr := ⟨_, rfl⟩
    subst hwO
    by_cases hlt : k < n0
    · have k1 : (k : Int) < (n0 : Int) := by omega
      have HRW := HR.out.below HB.out
      have hcap := HRW.room
      have k2 : (k : Int) < (cap : Int) := by omega
      have k0 : 0 ≤ (k : Int) := by omega
      obtain ⟨q, hq⟩ : ∃ q, L[k]? = some q := ⟨_, List.getElem?_eq_getElem (by rw [HRW.len]; exact hlt)⟩
      obtain ⟨g, rfl, hgl, hcell⟩ := HRW.row.resolve_left (fun e => by rw [e] at hq; simp at hq)
      have h9 := hcell k q hq
      have p0 : wO.cell? ⟨g, k * 4, none⟩ = some (.int .u64 (hi q.v)) := h9 0 (by omega)
      have p1 : wO.cell? ⟨g, k * 4 + 1, none⟩ = some (.int .u64 (lo q.v)) := h9 1 (by omega)
      have p2 : wO.cell? ⟨g, k * 4 + 2, none⟩ = some (.int .i64 q.n) := h9 2 (by omega)
      have p3 : wO.cell? ⟨g, k * 4 + 3, none⟩ = some (.int .i64 q.id) := h9 3 (by omega)
      have hqb := HNB.out q (List.mem_of_getElem? hq)
      have hq8 := (HR.out.ok q (List.mem_of_getElem? hq)).1
      have HNX : Hid (nodN b (L.take (k + 1)) = begN b q.v N0 (q.n + 1)) := Lib.hid (by rw [List.take_add_one, hq, HN0.out]; exact nodN_snoc b (L.take k) q)
      obtain ⟨W1, hW1⟩ : ∃ W1, W1 = wO.alloc (.cells #[.int .u64 (hi q.v), .int .u64 (lo q.v), .int .i64 q.n, .int .i64 q.id] 76) := ⟨_, rfl⟩
      have HW1 := Lib.hid hW1
      have HBW : Hid (Below w.heap.size w W1) := Lib.hid (by rw [hW1]; exact HB.out.alloc HB.out.size _)
      have HQB : Hid (W1.heap[wO.heap.size]? = some (.cells #[.int .u64 (hi q.v), .int .u64 (lo q.v), .int .i64 q.n, .int .i64 q.id] 76 (0, 0))) := Lib.hid (by rw [hW1]; exact heap_alloc_new _ _)
      have HO1 : Hid (W1.ownsRow w.heap.size 76 4 (.slice A0 N0.length c0) N0.length (rowAllU b (fun _ => 0) N0)) := Lib.hid (by rw [hW1]; exact World.ownsRow.alloc HO.out _)
      obtain ⟨F0, hF0⟩ : ∃ F0 : Nat → Prop, F0 = fun j => (Value.slice A0 N0.length c0).ownBlock = some j := ⟨_, rfl⟩
      have HFa : Hid (∀ j, (Value.slice A0 N0.length c0).ownBlock = some j → F0 j) := Lib.hid fun j e => by rw [hF0]; exact e
      have HFb : Hid (∀ j, F0 j → w.heap.size ≤ j ∧ j < wO.heap.size) := Lib.hid fun j e => by rw [hF0] at e; exact World.ownsRow.lt HO.out j e
      clear hW1 h9 hcell hgl hq hF0 HRW
      go_wp2_with fail
      rw [← HW1.out]
      clear p0 p1 p2 p3
      go_loopw [3, 6] (fun v i W => ∃ (j : Nat) (Ns : List Pth) (A1 : Option Addr) (c1 : Nat), j ≤ q.n + 1 ∧ i = .int .i64 j ∧ v = .slice A1 Ns.length c1 ∧ Ns = begN b q.v N0 j ∧ FrU F0 W1 W ∧ (∀ g, (Value.slice A1 Ns.length c1).ownBlock = some g → F0 g ∨ W1.heap.size ≤ g) ∧ W.ownsRow w.heap.size 76 4 (.slice A1 Ns.length c1) Ns.length (rowAllU b (fun _ => 0) Ns) ∧ ∀ p ∈ Ns, p.length ≤ b) (fun _ i _ => q.n + 1 - (intOf i).toNat)
      case atStart => exact ⟨0, N0, A0, c0, Nat.zero_le _, rfl, rfl, rfl, FrU.refl _ _, fun j e => .inl (HFa.out j e), HO1.out, HALL.out⟩
      case round =>
        obtain ⟨j, Ns, A1, c1, hj, rfl, rfl, hNs, hfr, hown, ho2, hall2⟩ := hrel
        have HNS := Lib.hid hNs
        have HFR := Lib.hid hfr
        have HOWN := Lib.hid hown
        have HO2 := Lib.hid ho2
        have HAL2 := Lib.hid hall2
        have HBM : Hid (Below w.heap.size w wr) := Lib.hid (HBW.out.trans (hfr.below HBW.out.size (fun j hj => (HFb.out j hj).1)))
        have HQM : Hid (wr.heap[wO.heap.size]? = some (.cells #[.int .u64 (hi q.v), .int .u64 (lo q.v), .int .i64 q.n, .int .i64 q.id] 76 (0, 0))) := Lib.hid ((hfr.block _ (heap_ltU HQB.out) (fun h => by have := (HFb.out _ h).2; omega)).trans HQB.out)
        have x2 := blk_cell HQM.out 2 _ rfl
        have hln : Ns.length ≤ 129 * k + j := by rw [hNs]; exact Nat.le_trans (begN_len b q.v N0 j) (by omega)
        clear hNs hfr hown ho2 hall2
        by_cases hjl : j ≤ q.n
        · have j1 : (j : Int) ≤ (q.n : Int) := by omega
          obtain ⟨pq, hpq⟩ : ∃ pq, pq = pthU b q.v j := ⟨_, rfl⟩
          have hpql : pq.length = j := by rw [hpq, pthU_len]
          have hpqb : pq.length ≤ b := by omega
          obtain ⟨M, hM⟩ : ∃ M, M = lead (b : Int) (j : Int) := ⟨_, rfl⟩
          have hM8 : M < 2 ^ 128 := by rw [hM]; exact lead_128U _ _
          have hV : q.v &&& M = pvU b pq := by rw [hM, hpq, pv_pth b hb8 q.v j (by omega)]
          have KL : Hid (∀ W, Calls Try.prog 61 #[.int .i64 b, .int .i64 j] W (RetV M W)) := Lib.hid fun W => by rw [hM]; exact rleading_any _ _ W
          have KA : Hid (∀ W, Calls Try.prog 60 #[.agg #[.int .u64 (hi q.v), .int .u64 (lo q.v)], .agg #[.int .u64 (hi M), .int .u64 (lo M)]] W (RetV (pvU b pq) W)) := Lib.hid fun W => by rw [← hV]; exact rand_any q.v M hq8 hM8 W
          have HKS : Hid (∀ w', Below wr.heap.size wr w' → w'.cell? ⟨wO.heap.size, 0, none⟩ = some (.int .u64 (hi q.v)) ∧ w'.cell? ⟨wO.heap.size, 1, none⟩ = some (.int .u64 (lo q.v)) ∧ w'.cell? ⟨Y, 0, none⟩ = some (.int .i64 b)) := Lib.hid fun w' hb => by
            have q1 := (hb.block _ (heap_ltU HQM.out)).trans HQM.out
            exact ⟨blk_cell q1 0 _ rfl, blk_cell q1 1 _ rfl, (HR.out.below (HBM.out.trans (hb.mono HBM.out.size))).b⟩
          have HPQ := Lib.hid hpq
          clear hM hM8 hV hpq
          obtain ⟨wM, hwM⟩ : ∃ y : World, y = wr := ⟨_, rfl⟩
          subst hwM
          go_upto_region 8 with fail
          go_cut [7] from 26 to 36 (fun v7 wx => ∃ X, v7 = .pointer (some ⟨X, 0, none⟩) ∧ wM.heap.size ≤ X ∧ X < wx.heap.size ∧ Below wM.heap.size wM wx ∧ wx.heap[X]? = some (.cells #[.int .u64 (hi (pvU b pq)), .int .u64 (lo (pvU b pq)), .int .i64 (j : Int), .int .i64 0] 76 (0, 0)))
          case first =>
            refine wp_region_S slNod (OneJ 11 (fun i => 26 + i) (fun i => ([.pointer (some ⟨wO.heap.size, 0, none⟩), .agg #[.int .u64 (hi q.v), .int .u64 (lo q.v)], .pointer (some ⟨Y, 0, none⟩), .pointer (some ⟨Y, 0, none⟩), .pointer (some ⟨Y, 0, none⟩), .int .i64 (b : Int), .int .i64 (j : Int), .agg #[.int .u64 (hi M), .int .u64 (lo M)], .agg #[.int .u64 (hi (pvU b pq)), .int .u64 (lo (pvU b pq))], .int .i64 (j : Int), .agg #[.int .u64 (hi (pvU b pq)), .int .u64 (lo (pvU b pq)), .int .i64 (j : Int), .int .i64 0]] : List Value).getD i undef) 7 wM #[.int .u64 0, .int .u64 0, .int .i64 0, .int .i64 0] #[.int .u64 (hi (pvU b pq)), .int .u64 (lo (pvU b pq)), .int .i64 (j : Int), .int .i64 0] 76) (by kernel_rfl) ?_ ?_ ?_ ?_
            · simp [setS, slNod]
            · exact OneJ.begun rfl
            · intro listed w1 v i hJ hrd
              obtain ⟨hlt2, hun⟩ := ready_subN hrd
              have hlt3 : i < 13 := hlt2
              clear hlt2
              obtain ⟨a0, a1, a2⟩ := HKS.out w1 hJ.below
              match i, hlt3 with
              | 0, _ =>
                refine wpOp_step rfl (fun K' hK => ?_)
                simp only [setS, slNod, List.setIfInBounds_toArray, List.set_cons_succ, List.set_cons_zero]
                have HH := Lib.hid hK
                clear hK hrd
                go_simp
                refine HH.out _ _ ⟨updv v 26 (.pointer (some ⟨wO.heap.size, 0, none⟩)), by simp [setS, slNod, updv], hJ.val (i := 0) (by decide) (fun j _ h => by omega) (by decide) (Below.refl _ _) rfl⟩
              | 1, _ =>
                have d0 : v 26 = .pointer (some ⟨wO.heap.size, 0, none⟩) := hJ.f 0 (by decide) (ready_depN hrd rfl (e := ⟨0, .data⟩) (by simp) rfl)
                refine wpOp_step rfl (fun K' hK => ?_)
                simp only [setS, slNod, List.setIfInBounds_toArray, List.set_cons_succ, List.set_cons_zero]
                have HH := Lib.hid hK
                rw [d0]
                clear hK hrd
                go_simp
                refine HH.out _ _ ⟨updv v 27 (.agg #[.int .u64 (hi q.v), .int .u64 (lo q.v)]), by simp [setS, slNod, updv, d0], hJ.val (i := 1) (by decide) (fun j _ h => by omega) (by decide) (Below.refl _ _) rfl⟩
              | 2, _ =>
                refine wpOp_step rfl (fun K' hK => ?_)
                simp only [setS, slNod, List.setIfInBounds_toArray, List.set_cons_succ, List.set_cons_zero]
                have HH := Lib.hid hK
                clear hK hrd
                go_simp
                refine HH.out _ _ ⟨updv v 28 (.pointer (some ⟨Y, 0, none⟩)), by simp [setS, slNod, updv], hJ.val (i := 2) (by decide) (fun j _ h => by omega) (by decide) (Below.refl _ _) rfl⟩
              | 3, _ =>
                have d2 : v 28 = .pointer (some ⟨Y, 0, none⟩) := hJ.f 2 (by decide) (ready_depN hrd rfl (e := ⟨2, .data⟩) (by simp) rfl)
                refine wpOp_step rfl (fun K' hK => ?_)
                simp only [setS, slNod, List.setIfInBounds_toArray, List.set_cons_succ, List.set_cons_zero]
                have HH := Lib.hid hK
                rw [d2]
                clear hK hrd
                go_simp
                refine HH.out _ _ ⟨updv v 29 (.pointer (some ⟨Y, 0, none⟩)), by simp [setS, slNod, updv, d2], hJ.val (i := 3) (by decide) (fun j _ h => by omega) (by decide) (Below.refl _ _) rfl⟩
              | 4, _ =>
                have d3 : v 29 = .pointer (some ⟨Y, 0, none⟩) := hJ.f 3 (by decide) (ready_depN hrd rfl (e := ⟨3, .data⟩) (by simp) rfl)
                refine wpOp_step rfl (fun K' hK => ?_)
                simp only [setS, slNod, List.setIfInBounds_toArray, List.set_cons_succ, List.set_cons_zero]
                have HH := Lib.hid hK
                rw [d3]
                clear hK hrd
                go_simp
                refine HH.out _ _ ⟨updv v 30 (.pointer (some ⟨Y, 0, none⟩)), by simp [setS, slNod, updv, d3], hJ.val (i := 4) (by decide) (fun j _ h => by omega) (by decide) (Below.refl _ _) rfl⟩
              | 5, _ =>
                have d4 : v 30 = .pointer (some ⟨Y, 0, none⟩) := hJ.f 4 (by decide) (ready_depN hrd rfl (e := ⟨4, .data⟩) (by simp) rfl)
                refine wpOp_step rfl (fun K' hK => ?_)
                simp only [setS, slNod, List.setIfInBounds_toArray, List.set_cons_succ, List.set_cons_zero]
                have HH := Lib.hid hK
                rw [d4]
                clear hK hrd
                go_simp
                refine HH.out _ _ ⟨updv v 31 (.int .i64 (b : Int)), by simp [setS, slNod, updv, d4], hJ.val (i := 5) (by decide) (fun j _ h => by omega) (by decide) (Below.refl _ _) rfl⟩
              | 6, _ =>
                refine wpOp_step rfl (fun K' hK => ?_)
                simp only [setS, slNod, List.setIfInBounds_toArray, List.set_cons_succ, List.set_cons_zero]
                have HH := Lib.hid hK
                clear hK hrd
                go_simp
                refine HH.out _ _ ⟨updv v 32 (.int .i64 (j : Int)), by simp [setS, slNod, updv], hJ.val (i := 6) (by decide) (fun j _ h => by omega) (by decide) (Below.refl _ _) rfl⟩
              | 7, _ =>
                have d5 : v 31 = .int .i64 (b : Int) := hJ.f 5 (by decide) (ready_depN hrd rfl (e := ⟨5, .data⟩) (by simp) rfl)
                have d6 : v 32 = .int .i64 (j : Int) := hJ.f 6 (by decide) (ready_depN hrd rfl (e := ⟨6, .data⟩) (by simp) rfl)
                refine wpOp_step rfl (fun K' hK => ?_)
                simp only [setS, slNod, List.setIfInBounds_toArray, List.set_cons_succ, List.set_cons_zero]
                have HH := Lib.hid hK
                rw [d5, d6]
                clear hK hrd
                go_simp
                go_at_call 61
                with_reducible refine (KL.out w1).mono ?_
                rintro en w2 ⟨rfl, hb2⟩
                go_simp
                refine HH.out _ _ ⟨updv v 33 (.agg #[.int .u64 (hi M), .int .u64 (lo M)]), by simp [setS, slNod, updv, d5, d6], hJ.val (i := 7) (by decide) (fun j _ h => by omega) (by decide) hb2 rfl⟩
              | 8, _ =>
                have d1 : v 27 = .agg #[.int .u64 (hi q.v), .int .u64 (lo q.v)] := hJ.f 1 (by decide) (ready_depN hrd rfl (e := ⟨1, .data⟩) (by simp) rfl)
                have d7 : v 33 = .agg #[.int .u64 (hi M), .int .u64 (lo M)] := hJ.f 7 (by decide) (ready_depN hrd rfl (e := ⟨7, .data⟩) (by simp) rfl)
                refine wpOp_step rfl (fun K' hK => ?_)
                simp only [setS, slNod, List.setIfInBounds_toArray, List.set_cons_succ, List.set_cons_zero]
                have HH := Lib.hid hK
                rw [d1, d7]
                clear hK hrd
                go_simp
                go_at_call 60
                with_reducible refine (KA.out w1).mono ?_
                rintro en w2 ⟨rfl, hb2⟩
                go_simp
                refine HH.out _ _ ⟨updv v 34 (.agg #[.int .u64 (hi (pvU b pq)), .int .u64 (lo (pvU b pq))]), by simp [setS, slNod, updv, d1, d7], hJ.val (i := 8) (by decide) (fun j _ h => by omega) (by decide) hb2 rfl⟩
              | 9, _ =>
                refine wpOp_step rfl (fun K' hK => ?_)
                simp only [setS, slNod, List.setIfInBounds_toArray, List.set_cons_succ, List.set_cons_zero]
                have HH := Lib.hid hK
                clear hK hrd
                go_simp
                refine HH.out _ _ ⟨updv v 35 (.int .i64 (j : Int)), by simp [setS, slNod, updv], hJ.val (i := 9) (by decide) (fun j _ h => by omega) (by decide) (Below.refl _ _) rfl⟩
              | 10, _ =>
                have d8 : v 34 = .agg #[.int .u64 (hi (pvU b pq)), .int .u64 (lo (pvU b pq))] := hJ.f 8 (by decide) (ready_depN hrd rfl (e := ⟨8, .data⟩) (by simp) rfl)
                have d9 : v 35 = .int .i64 (j : Int) := hJ.f 9 (by decide) (ready_depN hrd rfl (e := ⟨9, .data⟩) (by simp) rfl)
                refine wpOp_step rfl (fun K' hK => ?_)
                simp only [setS, slNod, List.setIfInBounds_toArray, List.set_cons_succ, List.set_cons_zero]
                have HH := Lib.hid hK
                rw [d8, d9]
                clear hK hrd
                go_simp
                refine HH.out _ _ ⟨updv v 36 (.agg #[.int .u64 (hi (pvU b pq)), .int .u64 (lo (pvU b pq)), .int .i64 (j : Int), .int .i64 0]), by simp [setS, slNod, updv, d8, d9], hJ.val (i := 10) (by decide) (fun j _ h => by omega) (by decide) (Below.refl _ _) rfl⟩
              | 11, _ =>
                have hl0 : listed.getD 11 false = false := unl hJ.size (by decide) hun
                refine wpOp_step rfl (fun K' hK => ?_)
                simp only [setS, slNod, List.setIfInBounds_toArray, List.set_cons_succ, List.set_cons_zero]
                have HH := Lib.hid hK
                clear hK hrd
                go_simp
                refine HH.out _ _ ⟨updv v 7 (.pointer (some ⟨w1.heap.size, 0, none⟩)), by simp [setS, slNod, updv], hJ.alloc (fun j _ => by omega) hl0⟩
              | 12, _ =>
                have hl0 : listed.getD 12 false = false := unl hJ.size (by decide) hun
                have hl1 : listed.getD 11 false = true := ready_depN hrd rfl (e := ⟨11, .data⟩) (by simp) rfl
                obtain ⟨X, eX, hX0, hXl, hz, _⟩ := hJ.p hl1
                have hb := hz hl0
                have d10 : v 36 = .agg #[.int .u64 (hi (pvU b pq)), .int .u64 (lo (pvU b pq)), .int .i64 (j : Int), .int .i64 0] := hJ.f 10 (by decide) (ready_depN hrd rfl (e := ⟨10, .data⟩) (by simp) rfl)
                have y0 : w1.cell? ⟨X, 0, none⟩ = some (.int .u64 0) := blk_cell hb 0 _ rfl
                have z0 := blk_froz hb 0
                have y1 : w1.cell? ⟨X, 1, none⟩ = some (.int .u64 0) := blk_cell hb 1 _ rfl
                have z1 := blk_froz hb 1
                have y2 : w1.cell? ⟨X, 2, none⟩ = some (.int .i64 0) := blk_cell hb 2 _ rfl
                have z2 := blk_froz hb 2
                have y3 : w1.cell? ⟨X, 3, none⟩ = some (.int .i64 0) := blk_cell hb 3 _ rfl
                have z3 := blk_froz hb 3
                refine wpOp_step rfl (fun K' hK => ?_)
                simp only [setS, slNod, List.setIfInBounds_toArray, List.set_cons_succ, List.set_cons_zero]
                have HH := Lib.hid hK
                rw [eX, d10]
                clear hK hrd
                go_simp
                have hs := blk_set (blk_set (blk_set (blk_set hb 0 (.int .u64 (hi (pvU b pq)))) 1 (.int .u64 (lo (pvU b pq)))) 2 (.int .i64 (j : Int))) 3 (.int .i64 0)
                have hbs : Below wM.heap.size wM ((((w1.setCell ⟨X, 0, none⟩ (.int .u64 (hi (pvU b pq)))).setCell ⟨X, 1, none⟩ (.int .u64 (lo (pvU b pq)))).setCell ⟨X, 2, none⟩ (.int .i64 (j : Int))).setCell ⟨X, 3, none⟩ (.int .i64 0)) := Below.setCell (Below.setCell (Below.setCell (Below.setCell hJ.below hX0 _) hX0 _) hX0 _) hX0 _
                refine HH.out _ _ ⟨v, by simp [setS, slNod, eX, d10], hJ.store hl1 eX hX0 hXl (by simp [World.setCell]) hs hbs⟩
              | _ + 13, h => exact absurd h (by omega)
            · intro listed w1 v hJ hr
              have hall := ready_allO (by kernel_rfl) hJ.size hr
              obtain ⟨X, eX, hX0, hXl, _, hXf⟩ := hJ.p (hall 11 (by decide))
              have hXb := hXf (hall 12 (by decide))
              have hbl := hJ.below
              clear hall hr hJ hXf
              simp only [setS, slNod, List.setIfInBounds_toArray, List.set_cons_succ, List.set_cons_zero]
              rw [eX]
              go_wp2_with fail
              go_meet
              exact ⟨X, rfl, hX0, hXl, hbl, hXb⟩
          case rest =>
            obtain ⟨X, rfl, hX0, hXl, hb2, bt2⟩ := hcut
            obtain ⟨W2, hW2⟩ : ∃ z, z = wc := ⟨_, rfl⟩
            subst hW2
            have HB2 := Lib.hid hb2
            have HX2 := Lib.hid bt2
            have HXL := Lib.hid hX0
            clear hb2 bt2 HKS KL KA hXl hX0
            go_wp2_with fail
            go_loopw [8, 39] (fun v i W => ∃ r : Nat, r ≤ Ns.length ∧ i = .int .i64 r ∧ v = .bool (decide (pq ∈ Ns.take r)) ∧ Below W2.heap.size W2 W) (fun _ i _ => Ns.length - (intOf i).toNat)
            case atStart => exact ⟨0, Nat.zero_le _, rfl, by simp, Below.refl _ _⟩
            case round =>
              obtain ⟨r, hr, rfl, rfl, hb3⟩ := hrel
              have HB3 := Lib.hid hb3
              clear hb3
              have HO3 : Hid (wr.ownsRow w.heap.size 76 4 (.slice A1 Ns.length c1) Ns.length (rowAllU b (fun _ => 0) Ns)) := Lib.hid (own_belowU (own_belowU HO2.out HB2.out) HB3.out)
              by_cases hrl : r < Ns.length
              · obtain ⟨x, hx⟩ : ∃ x, Ns[r]? = some x := ⟨_, List.getElem?_eq_getElem hrl⟩
                obtain ⟨g2, rfl, hcc, y0, y1, y2, y3⟩ := rowN_cells HO3.out hx
                have r1 : (r : Int) < (Ns.length : Int) := by omega
                have r2 : (r : Int) < (c1 : Int) := by omega
                have r0 : 0 ≤ (r : Int) := by omega
                have hxb := HAL2.out x (List.mem_of_getElem? hx)
                have HTK := Lib.hid (mem_take_succ (p := pq) hx)
                have hE := fun W => eq_begE b hb8 x pq hxb hpqb W
                rw [hpql] at hE
                have hG : Try.prog.eqGuardType Try.prog.depth 76 = false := by kernel_rfl
                have X3 : Hid ((wr.alloc (.cells #[.int .u64 (hi (pvU b x)), .int .u64 (lo (pvU b x)), .int .i64 (x.length : Int), .int .i64 0] 76)).heap[X]? = some (.cells #[.int .u64 (hi (pvU b pq)), .int .u64 (lo (pvU b pq)), .int .i64 (j : Int), .int .i64 0] 76 (0, 0))) := Lib.hid (((Below.refl _ wr).alloc (Nat.le_refl _) _ |>.block X (Nat.lt_of_lt_of_le (heap_ltU HX2.out) HB3.out.size)).trans ((HB3.out.block _ (heap_ltU HX2.out)).trans HX2.out))
                have e0 := blk_cell X3.out 0 _ rfl
                have e1 := blk_cell X3.out 1 _ rfl
                have e2 := blk_cell X3.out 2 _ rfl
                have e3 := blk_cell X3.out 3 _ rfl
                have hB4 : Hid (Below W2.heap.size W2 (wr.alloc (.cells #[.int .u64 (hi (pvU b x)), .int .u64 (lo (pvU b x)), .int .i64 (x.length : Int), .int .i64 0] 76))) := Lib.hid (HB3.out.alloc HB3.out.size _)
                generalize decide (x = pq) = bx at hE HTK
                generalize decide (pq ∈ Ns.take r) = bt at HTK ⊢
                clear hx
                cases bt
                · go_wp2_with fail
                  go_roundw
                  case rel => exact ⟨r + 1, by omega, by simp, by rw [HTK.out]; simp, hB4.out⟩
                  case measure => simp [intOf]; omega
                · go_wp2_with fail
                  go_roundw
                  case rel => exact ⟨r + 1, by omega, by simp, by rw [HTK.out]; simp, hB4.out⟩
                  case measure => simp [intOf]; omega
              · obtain rfl : r = Ns.length := by omega
                rw [List.take_length]
                have HBE : Hid (Below wM.heap.size wM wr) := Lib.hid (HB2.out.trans (HB3.out.mono HB2.out.size))
                have HFE : Hid (FrU F0 W1 wr) := Lib.hid (HFR.out.trans (FrU.of_below HBE.out (F := F0)) fun _ h => .inl h)
                by_cases hm : pq ∈ Ns
                · rw [decide_eq_true hm]
                  have HSX : Hid (begN b q.v N0 (j + 1) = Ns) := Lib.hid (by rw [begN_succ, ← HNS.out, ← HPQ.out]; exact if_pos hm)
                  clear hm
                  go_wp2_with fail
                  go_roundw
                  case rel => exact ⟨j + 1, Ns, A1, c1, by omega, by simp, rfl, HSX.out.symm, HFE.out, HOWN.out, HO3.out, HAL2.out⟩
                  case measure => simp [intOf]; omega
                · rw [decide_eq_false hm]
                  have HSX : Hid (begN b q.v N0 (j + 1) = Ns ++ [pq]) := Lib.hid (by rw [begN_succ, ← HNS.out, ← HPQ.out]; exact if_neg hm)
                  have XE := (HB3.out.block _ (heap_ltU HX2.out)).trans HX2.out
                  have e0 := blk_cell XE 0 _ rfl
                  have e1 := blk_cell XE 1 _ rfl
                  have e2 := blk_cell XE 2 _ rfl
                  have e3 := blk_cell XE 3 _ rfl
                  have N9 := Lib.hid (heap_alloc_new wr (.cells #[.int .u64 (hi (pvU b pq)), .int .u64 (lo (pvU b pq)), .int .i64 (j : Int), .int .i64 0] 76))
                  have hone : ∀ u ∈ ([.int .u64 (hi (pvU b pq)), .int .u64 (lo (pvU b pq)), .int .i64 (j : Int), .int .i64 0] : List Value), u.oneCell' = true := by intro u hu; simp only [List.mem_cons, List.not_mem_nil, or_false] at hu; rcases hu with h | h | h | h <;> rw [h] <;> rfl
                  have S9 : Hid (w.heap.size ≤ wr.heap.size) := Lib.hid (HBM.out.trans (HBE.out.mono HBM.out.size)).size
                  clear hm XE
                  go_wp2_with (at_builtin; (refine wpList_append_own_at _ rfl (.tmp 52) (.tmp 54) 62 rfl w.heap.size 76 i0 _ 4 32 Try.underlying62 HI0.out HZ0.out HY1.out HY2.out rfl (by decide) _ Ns.length _ rfl (World.ownsRow.alloc HO3.out _) ⟨wr.heap.size, 0, none⟩ 1 1 [.int .u64 (hi (pvU b pq)), .int .u64 (lo (pvU b pq)), .int .i64 (j : Int), .int .i64 0] rfl rfl (World.news_of_block N9.out) hone (by unfold maxLen; omega) (by omega) (by have := S9.out; simp; omega) ?_; intro v11 w11 hO11 hg11 hi11 hn11; clear hi11; obtain ⟨A11, c11, rfl⟩ := own_shapeU hO11; have O11 := Lib.hid hO11; have G11 := Lib.hid hg11; have N11 := Lib.hid hn11; clear hO11 hg11 hn11))
                  go_roundw
                  case rel =>
                    have hl1 : (Ns ++ [pq]).length = Ns.length + 1 := by simp
                    have hF11 : FrU F0 W1 w11 := by
                      have h1 := HFE.out.trans (FrU.of_below ((Below.refl _ wr).alloc (Nat.le_refl _) (.cells #[.int .u64 (hi (pvU b pq)), .int .u64 (lo (pvU b pq)), .int .i64 (j : Int), .int .i64 0] 76)) (F := F0)) fun _ h => .inl h
                      exact ⟨G11.out.os.trans h1.os, G11.out.tape.trans h1.tape, G11.out.output.trans h1.output, Nat.le_trans h1.size G11.out.size, fun i2 hi2 hn2 => (G11.out.block i2 (Nat.lt_of_lt_of_le hi2 h1.size) (fun e => by
                        rcases HOWN.out i2 e.symm with h2 | h2
                        · exact hn2 h2
                        · omega)).trans (h1.block i2 hi2 hn2)⟩
                    refine ⟨j + 1, Ns ++ [pq], A11, c11, by omega, by simp, by rw [hl1], HSX.out.symm, hF11, fun g3 e => ?_, ?_, fun p hp => ?_⟩
                    · rw [hl1] at e
                      rcases N11.out with h5 | h5
                      · rw [h5] at e; exact HOWN.out g3 e
                      · rw [h5] at e
                        injection e with e
                        have h6 := HFE.out.size
                        simp at e
                        exact .inr (by omega)
                    · rw [hl1, rowAllU_app]
                      have h7 := O11.out
                      rw [show ([.int .u64 (hi (pvU b pq)), .int .u64 (lo (pvU b pq)), .int .i64 (j : Int), .int .i64 0] : List Value) = rowAllU b (fun _ => 0) [pq] by simp [rowAllU, hpql]] at h7
                      exact h7
                    · rcases List.mem_append.1 hp with h5 | h5
                      · exact HAL2.out p h5
                      · rw [List.mem_singleton.1 h5]; exact hpqb
                  case measure => simp [intOf]; omega
        · obtain rfl : j = q.n + 1 := by omega
          have j1 : ¬ ((q.n + 1 : Nat) : Int) ≤ (q.n : Int) := by omega
          have j2 : decide (((q.n + 1 : Nat) : Int) ≤ (q.n : Int)) = false := decide_eq_false j1
          go_wp2_with fail
          go_roundw
          case rel => exact ⟨k + 1, Ns, A1, c1, by omega, by simp, rfl, by rw [HNX.out]; exact HNS.out, HBM.out, HO2.out, by omega, HAL2.out⟩
          case measure => simp [intOf]; omega
    · obtain rfl : n0 = k := by omega
      have HE : Hid (nodN b L = N0) := Lib.hid (by rw [HN0.out, List.take_of_length_le (by rw [HR.out.len]; omega)])
      go_wp2_with fail
      refine bodyPost_ret (v := .int .i64 (N0.length : Int)) (by simp [results, Try.results31, go_sem]) rfl ?_
      exact ⟨by rw [HE.out], HB.out⟩
end Go.Proofs.Ytmlocfojmncghaa
