/- Layer 12: the reference's Longest. -/
import Derived.Test.YtmlocfojmncghaaURel
import Derived.Test.YtmlocfojmncghaaGWin
import Derived.Deep.RegionHeld3
namespace Go.Proofs.Ytmlocfojmncghaa
open Go.RowKit
theorem stepE_yes {b u : Nat} {a : Nat × Int × Bool} {e : PE} (h1 : covE b u e = true) (h2 : a.2.2 = false ∨ a.1 < e.n) (h3 : decide ((bitLen u : Int) ≤ b) = true) : stepE b u a e = (e.n, e.id, true) := if_pos ⟨h1, h2, of_decide_eq_true h3⟩
theorem stepE_no {b u : Nat} {a : Nat × Int × Bool} {e : PE} (h : covE b u e = false ∨ ¬ (a.2.2 = false ∨ a.1 < e.n) ∨ decide ((bitLen u : Int) ≤ b) = false) : stepE b u a e = a := if_neg (by
  rintro ⟨h1, h2, h3⟩
  rcases h with h | h | h
  · rw [h1] at h; cases h
  · exact h h2
  · rw [decide_eq_true h3] at h; cases h)
set_option maxRecDepth 100000 in
set_option maxHeartbeats 8000000 in
theorem re_Longest {w : World} {Y bits n0 cap : Nat} {A : Option Addr} {L : List PE} (h : RE w Y bits A n0 cap L) (hn : n0 ≤ 100000) (u : Nat) (hu : u < 2 ^ 128) : Calls Try.prog 35 #[.pointer (some ⟨Y, 0, none⟩), .agg #[.int .u64 (hi u), .int .u64 (lo u)]] w (RetX (.tuple #[.int .i64 ((lngE bits u L).1 : Int), .int .i64 (lngE bits u L).2.1, .bool (lngE bits u L).2.2]) w) := by
  have HR := Lib.hid h
  obtain ⟨w2, hw2⟩ : ∃ w2, w2 = w.alloc (.cells #[.int .u64 (hi u), .int .u64 (lo u)] 29) := ⟨_, rfl⟩
  have HB0 : Hid (Below w.heap.size w w2) := Lib.hid (by rw [hw2]; exact (Below.refl _ w).alloc (Nat.le_refl _) _)
  have HX0 : Hid (w2.heap[w.heap.size]? = some (.cells #[.int .u64 (hi u), .int .u64 (lo u)] 29 (0, 0))) := Lib.hid (by rw [hw2]; exact heap_alloc_new w _)
  have HW := Lib.hid hw2
  have HSZ : Hid (w.heap.size < w2.heap.size) := Lib.hid (by rw [hw2]; simp)
  have HR2 := Lib.hid (h.below HB0.out)
  have hc := HR2.out.c
  clear h
  rw [hw2] at hc
  clear hw2
  obtain ⟨fb, hfb⟩ : ∃ fb, fb = decide ((bitLen u : Int) ≤ bits) := ⟨_, rfl⟩
  have HFB := Lib.hid hfb.symm
  have KF : Hid (∀ W, Calls Try.prog 74 #[.agg #[.int .u64 (hi u), .int .u64 (lo u)], .int .i64 bits] W (RetX (.bool fb) W)) := Lib.hid fun W => by rw [hfb]; exact rfits_any u bits hu W
  clear hfb
  have HG := Lib.hid eqG_valU
  go_enter Try.func35, Try.ntmps35
  go_wp2_with fail
  rw [← HW.out]
  clear hc
  go_loopw [7, 8, 9, 17] (fun a b c i W => ∃ (k : Nat) (an : Nat) (ai : Int) (ab : Bool), k ≤ n0 ∧ i = .int .i64 k ∧ a = .int .i64 (an : Int) ∧ b = .int .i64 ai ∧ c = .bool ab ∧ (L.take k).foldl (stepE bits u) (0, 0, false) = (an, ai, ab) ∧ Below w2.heap.size w2 W) (fun _ _ _ i _ => n0 - (intOf i).toNat)
  case atStart => exact ⟨0, 0, 0, false, Nat.zero_le _, rfl, rfl, rfl, rfl, rfl, Below.refl _ _⟩
  case round =>
    obtain ⟨k, an, ai, ab, hk, rfl, rfl, rfl, rfl, hacc, hb⟩ := hrel
    have HB := Lib.hid hb
    have HACC := Lib.hid hacc
    have HRW := Lib.hid (HR2.out.below hb)
    clear hacc hb
    by_cases hlt : k < n0
    · have k1 : (k : Int) < (n0 : Int) := by omega
      have hcap := HRW.out.room
      have k2 : (k : Int) < (cap : Int) := by omega
      have k0 : 0 ≤ (k : Int) := by omega
      obtain ⟨q, hq⟩ : ∃ q, L[k]? = some q := ⟨_, List.getElem?_eq_getElem (by rw [HRW.out.len]; exact hlt)⟩
      obtain ⟨g, rfl, hgl, hcell⟩ := HRW.out.row.resolve_left (fun e => by rw [e] at hq; simp at hq)
      have h9 := hcell k q hq
      have p0 : wr.cell? ⟨g, k * 4, none⟩ = some (.int .u64 (hi q.v)) := h9 0 (by omega)
      have p1 : wr.cell? ⟨g, k * 4 + 1, none⟩ = some (.int .u64 (lo q.v)) := h9 1 (by omega)
      have p2 : wr.cell? ⟨g, k * 4 + 2, none⟩ = some (.int .i64 q.n) := h9 2 (by omega)
      have p3 : wr.cell? ⟨g, k * 4 + 3, none⟩ = some (.int .i64 q.id) := h9 3 (by omega)
      have HOK := Lib.hid (HR.out.ok q (List.mem_of_getElem? hq))
      have HNX : Hid ((L.take (k + 1)).foldl (stepE bits u) (0, 0, false) = stepE bits u (an, ai, ab) q) := Lib.hid (by rw [List.take_add_one, hq]; simp [List.foldl_append, HACC.out])
      obtain ⟨W0, hW0⟩ : ∃ W0, W0 = wr.alloc (.cells #[.int .u64 (hi q.v), .int .u64 (lo q.v), .int .i64 q.n, .int .i64 q.id] 76) := ⟨_, rfl⟩
      have HW0 := Lib.hid hW0
      have HBW : Hid (Below w2.heap.size w2 W0) := Lib.hid (by rw [hW0]; exact HB.out.alloc HB.out.size _)
      have hb0 : W0.heap[wr.heap.size]? = some (.cells #[.int .u64 (hi q.v), .int .u64 (lo q.v), .int .i64 q.n, .int .i64 q.id] 76 (0, 0)) := by rw [hW0]; exact heap_alloc_new _ _
      have HKS : Hid (∀ w', Below W0.heap.size W0 w' → Below W0.heap.size W0 w' ∧ w'.cell? ⟨w.heap.size, 0, none⟩ = some (.int .u64 (hi u)) ∧ w'.cell? ⟨w.heap.size, 1, none⟩ = some (.int .u64 (lo u)) ∧ w'.cell? ⟨wr.heap.size, 0, none⟩ = some (.int .u64 (hi q.v)) ∧ w'.cell? ⟨wr.heap.size, 1, none⟩ = some (.int .u64 (lo q.v)) ∧ w'.cell? ⟨wr.heap.size, 2, none⟩ = some (.int .i64 q.n) ∧ w'.cell? ⟨wr.heap.size, 3, none⟩ = some (.int .i64 q.id) ∧ w'.cell? ⟨Y, 0, none⟩ = some (.int .i64 bits)) := Lib.hid fun w' hb => by
        have hx := (HBW.out.trans (hb.mono HBW.out.size))
        have q0 := (hx.block _ HSZ.out).trans HX0.out
        have q1 := (hb.block _ (heap_ltU hb0)).trans hb0
        exact ⟨hb, blk_cell q0 0 _ rfl, blk_cell q0 1 _ rfl, blk_cell q1 0 _ rfl, blk_cell q1 1 _ rfl, blk_cell q1 2 _ rfl, blk_cell q1 3 _ rfl, (HR2.out.below hx).b⟩
      clear hW0 hb0 h9 hcell hgl
      obtain ⟨M, hM⟩ : ∃ M, M = lead (bits : Int) (q.n : Int) := ⟨_, rfl⟩
      have hM8 : M < 2 ^ 128 := by rw [hM]; exact lead_128U _ _
      have KL : Hid (∀ W, Calls Try.prog 61 #[.int .i64 bits, .int .i64 q.n] W (RetV M W)) := Lib.hid fun W => by rw [hM]; exact rleading_any _ _ W
      have KA : Hid (∀ W, Calls Try.prog 60 #[.agg #[.int .u64 (hi u), .int .u64 (lo u)], .agg #[.int .u64 (hi M), .int .u64 (lo M)]] W (RetV (u &&& M) W)) := Lib.hid fun W => rand_any u M hu hM8 W
      obtain ⟨cv, hcv⟩ : ∃ cv, cv = covE bits u q := ⟨_, rfl⟩
      have HE : Hid (∀ W : World, (Op.equalIn 10000 29 (.agg #[.int .u64 (hi (u &&& M)), .int .u64 (lo (u &&& M))]) (.agg #[.int .u64 (hi q.v), .int .u64 (lo q.v)])).run Try.prog W = .ok cv W) := Lib.hid fun W => by rw [eq_valU, hilo_eqU _ _ (and_128U hu) HOK.out.1, hcv, hM]; rfl
      have HCV := Lib.hid hcv.symm
      clear hM hM8 hcv hq
      cases cv
      · have hE := HE.out
        have hG := HG.out
        go_upto_region 5 with fail
        rw [← HW0.out]
        clear p0 p1 p2 p3
        refine wp_region_noPanic ?_
        refine wp_region_held_drew (S := fun w' => Below W0.heap.size W0 w' ∧ w'.cell? ⟨w.heap.size, 0, none⟩ = some (.int .u64 (hi u)) ∧ w'.cell? ⟨w.heap.size, 1, none⟩ = some (.int .u64 (lo u)) ∧ w'.cell? ⟨wr.heap.size, 0, none⟩ = some (.int .u64 (hi q.v)) ∧ w'.cell? ⟨wr.heap.size, 1, none⟩ = some (.int .u64 (lo q.v)) ∧ w'.cell? ⟨wr.heap.size, 2, none⟩ = some (.int .i64 q.n) ∧ w'.cell? ⟨wr.heap.size, 3, none⟩ = some (.int .i64 q.id) ∧ w'.cell? ⟨Y, 0, none⟩ = some (.int .i64 bits)) (by kernel_rfl) (HKS.out _ (Below.drew (Below.refl _ _))) (fun hHeld => ?_)
        refine wpAnyH_take (i := 0) (oi := ({ dst := some 21, op := Op.load 29 (Operand.tmp 3), type := 29, pos := "ref.go:75", after := #[], guard := none } : Oper)) (v := ?_) rfl (by kernel_rfl) (by kernel_rfl) (by kernel_rfl) (fun _ _ _ h => h) (Or.inl ⟨by rfl, ?_⟩) hHeld ?_
        rotate_left
        · (intro w1 hSw; (try dsimp only at hSw); go_simp; all_goals with_reducible rfl)
        (try go_frame)
        refine wpAnyH_take (i := 1) (oi := ({ dst := some 22, op := Op.move (Operand.tmp 0), type := 56, pos := "ref.go:75", after := #[], guard := none } : Oper)) (v := ?_) rfl (by kernel_rfl) (by kernel_rfl) (by kernel_rfl) (fun _ _ _ h => h) (Or.inl ⟨by rfl, ?_⟩) hHeld ?_
        rotate_left
        · (intro w1 hSw; (try dsimp only at hSw); go_simp; all_goals with_reducible rfl)
        (try go_frame)
        refine wpAnyH_take (i := 2) (oi := ({ dst := some 23, op := Op.nilCheck (Operand.tmp 22), type := 0, pos := "ref.go:75", after := #[{ on := 1, ground := Ground.data }], guard := none } : Oper)) (v := ?_) rfl (by kernel_rfl) (by kernel_rfl) (by kernel_rfl) (fun _ _ _ h => h) (Or.inl ⟨by rfl, ?_⟩) hHeld ?_
        rotate_left
        · (intro w1 hSw; (try dsimp only at hSw); go_simp; all_goals with_reducible rfl)
        (try go_frame)
        refine wpAnyH_take (i := 3) (oi := ({ dst := some 24, op := Op.fieldAddr 64 (Operand.tmp 23) 0, type := 0, pos := "ref.go:75", after := #[{ on := 2, ground := Ground.data }], guard := none } : Oper)) (v := ?_) rfl (by kernel_rfl) (by kernel_rfl) (by kernel_rfl) (fun _ _ _ h => h) (Or.inl ⟨by rfl, ?_⟩) hHeld ?_
        rotate_left
        · (intro w1 hSw; (try dsimp only at hSw); go_simp; all_goals with_reducible rfl)
        (try go_frame)
        refine wpAnyH_take (i := 4) (oi := ({ dst := some 25, op := Op.load 3 (Operand.tmp 24), type := 3, pos := "ref.go:75", after := #[{ on := 3, ground := Ground.data }], guard := none } : Oper)) (v := ?_) rfl (by kernel_rfl) (by kernel_rfl) (by kernel_rfl) (fun _ _ _ h => h) (Or.inl ⟨by rfl, ?_⟩) hHeld ?_
        rotate_left
        · (intro w1 hSw; (try dsimp only at hSw); go_simp; all_goals with_reducible rfl)
        (try go_frame)
        refine wpAnyH_take (i := 5) (oi := ({ dst := some 26, op := Op.fieldAddr 76 (Operand.tmp 11) 1, type := 0, pos := "ref.go:75", after := #[], guard := none } : Oper)) (v := ?_) rfl (by kernel_rfl) (by kernel_rfl) (by kernel_rfl) (fun _ _ _ h => h) (Or.inl ⟨by rfl, ?_⟩) hHeld ?_
        rotate_left
        · (intro w1 hSw; (try dsimp only at hSw); go_simp; all_goals with_reducible rfl)
        (try go_frame)
        refine wpAnyH_take (i := 6) (oi := ({ dst := some 27, op := Op.load 3 (Operand.tmp 26), type := 3, pos := "ref.go:75", after := #[{ on := 5, ground := Ground.data }], guard := none } : Oper)) (v := ?_) rfl (by kernel_rfl) (by kernel_rfl) (by kernel_rfl) (fun _ _ _ h => h) (Or.inl ⟨by rfl, ?_⟩) hHeld ?_
        rotate_left
        · (intro w1 hSw; (try dsimp only at hSw); go_simp; all_goals with_reducible rfl)
        (try go_frame)
        refine wpAnyH_take (i := 9) (oi := ({ dst := some 30, op := Op.fieldAddr 76 (Operand.tmp 11) 0, type := 0, pos := "ref.go:75", after := #[], guard := none } : Oper)) (v := ?_) rfl (by kernel_rfl) (by kernel_rfl) (by kernel_rfl) (fun _ _ _ h => h) (Or.inl ⟨by rfl, ?_⟩) hHeld ?_
        rotate_left
        · (intro w1 hSw; (try dsimp only at hSw); go_simp; all_goals with_reducible rfl)
        (try go_frame)
        refine wpAnyH_take (i := 10) (oi := ({ dst := some 31, op := Op.load 29 (Operand.tmp 30), type := 29, pos := "ref.go:75", after := #[{ on := 9, ground := Ground.data }], guard := none } : Oper)) (v := ?_) rfl (by kernel_rfl) (by kernel_rfl) (by kernel_rfl) (fun _ _ _ h => h) (Or.inl ⟨by rfl, ?_⟩) hHeld ?_
        rotate_left
        · (intro w1 hSw; (try dsimp only at hSw); go_simp; all_goals with_reducible rfl)
        (try go_frame)
        refine wpAnyH_ready (rs := [7]) (by kernel_rfl) (by simp) ?_
        refine AllReadyH.cons (o := ({ dst := some 28, op := Op.call { callee := Callee.value (Operand.func 61), args := #[Operand.tmp 25, Operand.tmp 27], argTypes := #[3, 3] }, type := 29, pos := "ref.go:75", after := #[{ on := 4, ground := Ground.data }, { on := 6, ground := Ground.data }], guard := none } : Oper)) rfl (fun K hK => ?_) AllReadyH.nil
        go_simp
        go_wp2_with (go_at_call 61; (with_reducible refine (KL.out _).mono ?_); rintro en v1 ⟨rfl, hv1⟩)
        refine hK.out _ _ ?_ (fun hHeld2 => ?_)
        · exact HKS.out _ (below_call (And.left hHeld) (by assumption))
        clear hK K hHeld
        have hHeld := hHeld2
        clear hHeld2
        (try go_frame)
        refine wpAnyH_ready (rs := [8]) (by kernel_rfl) (by simp) ?_
        refine AllReadyH.cons (o := ({ dst := some 29, op := Op.call { callee := Callee.value (Operand.func 60), args := #[Operand.tmp 21, Operand.tmp 28], argTypes := #[29, 29] }, type := 29, pos := "ref.go:75", after := #[{ on := 0, ground := Ground.data }, { on := 7, ground := Ground.data }, { on := 7, ground := Ground.chain }], guard := none } : Oper)) rfl (fun K hK => ?_) AllReadyH.nil
        go_simp
        go_wp2_with (go_at_call 60; (with_reducible refine (KA.out _).mono ?_); rintro en v2 ⟨rfl, hv2⟩)
        refine hK.out _ _ ?_ (fun hHeld2 => ?_)
        · exact HKS.out _ (below_call (And.left hHeld) (by assumption))
        clear hK K hHeld
        have hHeld := hHeld2
        clear hHeld2
        (try go_frame)
        refine wpAnyH_take (i := 11) (oi := ({ dst := some 32, op := Op.binOp BinOp.eql 29 (Operand.tmp 29) (Operand.tmp 31) 29, type := 4, pos := "ref.go:75", after := #[{ on := 8, ground := Ground.data }, { on := 10, ground := Ground.data }], guard := none } : Oper)) (v := ?_) rfl (by kernel_rfl) (by kernel_rfl) (by kernel_rfl) (fun _ _ _ h => h) (Or.inl ⟨by rfl, ?_⟩) hHeld ?_
        rotate_left
        · (intro w1 hSw; (try dsimp only at hSw); go_simp; all_goals with_reducible rfl)
        (try go_frame)
        refine wpAnyH_take (i := 12) (oi := ({ dst := some 33, op := Op.move (Operand.tmp 32), type := 4, pos := "ref.go:75", after := #[{ on := 11, ground := Ground.data }, { on := 8, ground := Ground.chain }], guard := none } : Oper)) (v := ?_) rfl (by kernel_rfl) (by kernel_rfl) (by kernel_rfl) (fun _ _ _ h => h) (Or.inl ⟨by rfl, ?_⟩) hHeld ?_
        rotate_left
        · (intro w1 hSw; (try dsimp only at hSw); go_simp; all_goals with_reducible rfl)
        (try go_frame)
        refine wpAnyH_take (i := 13) (oi := ({ dst := some 34, op := Op.move (Operand.tmp 9), type := 4, pos := "ref.go:75", after := #[{ on := 12, ground := Ground.guard }], guard := some (12, true) } : Oper)) (v := undef) rfl (by kernel_rfl) (by kernel_rfl) (by kernel_rfl) (fun _ _ _ h => h) (Or.inr ⟨by kernel_rfl, rfl⟩) hHeld ?_
        (try go_frame)
        refine wpAnyH_take (i := 14) (oi := ({ dst := some 35, op := Op.unOp UnOp.not 4 (Operand.tmp 34), type := 4, pos := "ref.go:75", after := #[{ on := 13, ground := Ground.data }, { on := 12, ground := Ground.guard }], guard := some (12, true) } : Oper)) (v := undef) rfl (by kernel_rfl) (by kernel_rfl) (by kernel_rfl) (fun _ _ _ h => h) (Or.inr ⟨by kernel_rfl, rfl⟩) hHeld ?_
        (try go_frame)
        refine wpAnyH_take (i := 15) (oi := ({ dst := some 36, op := Op.move (Operand.tmp 35), type := 4, pos := "ref.go:75", after := #[{ on := 14, ground := Ground.data }, { on := 12, ground := Ground.chain }, { on := 12, ground := Ground.guard }], guard := some (12, true) } : Oper)) (v := undef) rfl (by kernel_rfl) (by kernel_rfl) (by kernel_rfl) (fun _ _ _ h => h) (Or.inr ⟨by kernel_rfl, rfl⟩) hHeld ?_
        (try go_frame)
        refine wpAnyH_take (i := 16) (oi := ({ dst := some 37, op := Op.fieldAddr 76 (Operand.tmp 11) 1, type := 0, pos := "ref.go:75", after := #[{ on := 15, ground := Ground.guard }], guard := some (15, false) } : Oper)) (v := undef) rfl (by kernel_rfl) (by kernel_rfl) (by kernel_rfl) (fun _ _ _ h => h) (Or.inr ⟨by kernel_rfl, rfl⟩) hHeld ?_
        (try go_frame)
        refine wpAnyH_take (i := 17) (oi := ({ dst := some 38, op := Op.load 3 (Operand.tmp 37), type := 3, pos := "ref.go:75", after := #[{ on := 16, ground := Ground.data }, { on := 15, ground := Ground.guard }], guard := some (15, false) } : Oper)) (v := undef) rfl (by kernel_rfl) (by kernel_rfl) (by kernel_rfl) (fun _ _ _ h => h) (Or.inr ⟨by kernel_rfl, rfl⟩) hHeld ?_
        (try go_frame)
        refine wpAnyH_take (i := 18) (oi := ({ dst := some 39, op := Op.move (Operand.tmp 7), type := 3, pos := "ref.go:75", after := #[{ on := 15, ground := Ground.guard }], guard := some (15, false) } : Oper)) (v := undef) rfl (by kernel_rfl) (by kernel_rfl) (by kernel_rfl) (fun _ _ _ h => h) (Or.inr ⟨by kernel_rfl, rfl⟩) hHeld ?_
        (try go_frame)
        refine wpAnyH_take (i := 19) (oi := ({ dst := some 40, op := Op.binOp BinOp.gtr 3 (Operand.tmp 38) (Operand.tmp 39) 3, type := 4, pos := "ref.go:75", after := #[{ on := 17, ground := Ground.data }, { on := 18, ground := Ground.data }, { on := 15, ground := Ground.guard }], guard := some (15, false) } : Oper)) (v := undef) rfl (by kernel_rfl) (by kernel_rfl) (by kernel_rfl) (fun _ _ _ h => h) (Or.inr ⟨by kernel_rfl, rfl⟩) hHeld ?_
        (try go_frame)
        refine wpAnyH_take (i := 20) (oi := ({ dst := some 41, op := Op.pick (Operand.tmp 36) (Operand.const (Value.bool true)) (Operand.tmp 40), type := 4, pos := "ref.go:75", after := #[{ on := 15, ground := Ground.data }, { on := 19, ground := Ground.data }, { on := 12, ground := Ground.guard }], guard := some (12, true) } : Oper)) (v := undef) rfl (by kernel_rfl) (by kernel_rfl) (by kernel_rfl) (fun _ _ _ h => h) (Or.inr ⟨by kernel_rfl, rfl⟩) hHeld ?_
        (try go_frame)
        refine wpAnyH_take (i := 21) (oi := ({ dst := some 42, op := Op.pick (Operand.tmp 33) (Operand.tmp 41) (Operand.const (Value.bool false)), type := 4, pos := "ref.go:75", after := #[{ on := 12, ground := Ground.data }, { on := 20, ground := Ground.data }], guard := none } : Oper)) (v := ?_) rfl (by kernel_rfl) (by kernel_rfl) (by kernel_rfl) (fun _ _ _ h => h) (Or.inl ⟨by rfl, ?_⟩) hHeld ?_
        rotate_left
        · (intro w1 hSw; (try dsimp only at hSw); go_simp; all_goals with_reducible rfl)
        (try go_frame)
        refine wpAnyH_take (i := 22) (oi := ({ dst := some 43, op := Op.move (Operand.tmp 42), type := 4, pos := "ref.go:75", after := #[{ on := 21, ground := Ground.data }, { on := 15, ground := Ground.chain }], guard := none } : Oper)) (v := ?_) rfl (by kernel_rfl) (by kernel_rfl) (by kernel_rfl) (fun _ _ _ h => h) (Or.inl ⟨by rfl, ?_⟩) hHeld ?_
        rotate_left
        · (intro w1 hSw; (try dsimp only at hSw); go_simp; all_goals with_reducible rfl)
        (try go_frame)
        refine wpAnyH_take (i := 23) (oi := ({ dst := some 44, op := Op.load 29 (Operand.tmp 3), type := 29, pos := "ref.go:75", after := #[{ on := 22, ground := Ground.guard }], guard := some (22, true) } : Oper)) (v := undef) rfl (by kernel_rfl) (by kernel_rfl) (by kernel_rfl) (fun _ _ _ h => h) (Or.inr ⟨by kernel_rfl, rfl⟩) hHeld ?_
        (try go_frame)
        refine wpAnyH_take (i := 24) (oi := ({ dst := some 45, op := Op.move (Operand.tmp 0), type := 56, pos := "ref.go:75", after := #[{ on := 22, ground := Ground.guard }], guard := some (22, true) } : Oper)) (v := undef) rfl (by kernel_rfl) (by kernel_rfl) (by kernel_rfl) (fun _ _ _ h => h) (Or.inr ⟨by kernel_rfl, rfl⟩) hHeld ?_
        (try go_frame)
        refine wpAnyH_take (i := 25) (oi := ({ dst := some 46, op := Op.nilCheck (Operand.tmp 45), type := 0, pos := "ref.go:75", after := #[{ on := 24, ground := Ground.data }, { on := 22, ground := Ground.guard }], guard := some (22, true) } : Oper)) (v := undef) rfl (by kernel_rfl) (by kernel_rfl) (by kernel_rfl) (fun _ _ _ h => h) (Or.inr ⟨by kernel_rfl, rfl⟩) hHeld ?_
        (try go_frame)
        refine wpAnyH_take (i := 26) (oi := ({ dst := some 47, op := Op.fieldAddr 64 (Operand.tmp 46) 0, type := 0, pos := "ref.go:75", after := #[{ on := 25, ground := Ground.data }, { on := 22, ground := Ground.guard }], guard := some (22, true) } : Oper)) (v := undef) rfl (by kernel_rfl) (by kernel_rfl) (by kernel_rfl) (fun _ _ _ h => h) (Or.inr ⟨by kernel_rfl, rfl⟩) hHeld ?_
        (try go_frame)
        refine wpAnyH_take (i := 27) (oi := ({ dst := some 48, op := Op.load 3 (Operand.tmp 47), type := 3, pos := "ref.go:75", after := #[{ on := 26, ground := Ground.data }, { on := 22, ground := Ground.guard }], guard := some (22, true) } : Oper)) (v := undef) rfl (by kernel_rfl) (by kernel_rfl) (by kernel_rfl) (fun _ _ _ h => h) (Or.inr ⟨by kernel_rfl, rfl⟩) hHeld ?_
        (try go_frame)
        refine wpAnyH_take (i := 28) (oi := ({ dst := some 49, op := Op.call { callee := Callee.value (Operand.func 74), args := #[Operand.tmp 44, Operand.tmp 48], argTypes := #[29, 3] }, type := 4, pos := "ref.go:75", after := #[{ on := 23, ground := Ground.data }, { on := 27, ground := Ground.data }, { on := 22, ground := Ground.chain }, { on := 22, ground := Ground.guard }], guard := some (22, true) } : Oper)) (v := undef) rfl (by kernel_rfl) (by kernel_rfl) (by kernel_rfl) (fun _ _ _ h => h) (Or.inr ⟨by kernel_rfl, rfl⟩) hHeld ?_
        (try go_frame)
        refine wpAnyH_take (i := 29) (oi := ({ dst := some 50, op := Op.pick (Operand.tmp 43) (Operand.tmp 49) (Operand.const (Value.bool false)), type := 4, pos := "ref.go:75", after := #[{ on := 22, ground := Ground.data }, { on := 28, ground := Ground.data }], guard := none } : Oper)) (v := ?_) rfl (by kernel_rfl) (by kernel_rfl) (by kernel_rfl) (fun _ _ _ h => h) (Or.inl ⟨by rfl, ?_⟩) hHeld ?_
        rotate_left
        · (intro w1 hSw; (try dsimp only at hSw); go_simp; all_goals with_reducible rfl)
        (try go_frame)
        refine wpAnyH_done (by kernel_rfl) ?_ _
        refine NoPanic.normal ?_
        (try go_frame)
        obtain ⟨hBx, s0, s1, s2, s3, s4, s5, s6⟩ := hHeld
        have HBX := Lib.hid (HBW.out.trans (hBx.mono HBW.out.size))
        clear hBx
        go_wp2_with fail
        go_roundw
        case rel => exact ⟨k + 1, _, _, _, by omega, by simp, rfl, rfl, rfl, HNX.out.trans (stepE_no (.inl HCV.out)), HBX.out⟩
        case measure => simp [intOf]; omega
      · cases ab
        · cases fb
          · have hE := HE.out
            have hG := HG.out
            go_upto_region 5 with fail
            rw [← HW0.out]
            clear p0 p1 p2 p3
            refine wp_region_noPanic ?_
            refine wp_region_held_drew (S := fun w' => Below W0.heap.size W0 w' ∧ w'.cell? ⟨w.heap.size, 0, none⟩ = some (.int .u64 (hi u)) ∧ w'.cell? ⟨w.heap.size, 1, none⟩ = some (.int .u64 (lo u)) ∧ w'.cell? ⟨wr.heap.size, 0, none⟩ = some (.int .u64 (hi q.v)) ∧ w'.cell? ⟨wr.heap.size, 1, none⟩ = some (.int .u64 (lo q.v)) ∧ w'.cell? ⟨wr.heap.size, 2, none⟩ = some (.int .i64 q.n) ∧ w'.cell? ⟨wr.heap.size, 3, none⟩ = some (.int .i64 q.id) ∧ w'.cell? ⟨Y, 0, none⟩ = some (.int .i64 bits)) (by kernel_rfl) (HKS.out _ (Below.drew (Below.refl _ _))) (fun hHeld => ?_)
            refine wpAnyH_take (i := 0) (oi := ({ dst := some 21, op := Op.load 29 (Operand.tmp 3), type := 29, pos := "ref.go:75", after := #[], guard := none } : Oper)) (v := ?_) rfl (by kernel_rfl) (by kernel_rfl) (by kernel_rfl) (fun _ _ _ h => h) (Or.inl ⟨by rfl, ?_⟩) hHeld ?_
            rotate_left
            · (intro w1 hSw; (try dsimp only at hSw); go_simp; all_goals with_reducible rfl)
            (try go_frame)
            refine wpAnyH_take (i := 1) (oi := ({ dst := some 22, op := Op.move (Operand.tmp 0), type := 56, pos := "ref.go:75", after := #[], guard := none } : Oper)) (v := ?_) rfl (by kernel_rfl) (by kernel_rfl) (by kernel_rfl) (fun _ _ _ h => h) (Or.inl ⟨by rfl, ?_⟩) hHeld ?_
            rotate_left
            · (intro w1 hSw; (try dsimp only at hSw); go_simp; all_goals with_reducible rfl)
            (try go_frame)
            refine wpAnyH_take (i := 2) (oi := ({ dst := some 23, op := Op.nilCheck (Operand.tmp 22), type := 0, pos := "ref.go:75", after := #[{ on := 1, ground := Ground.data }], guard := none } : Oper)) (v := ?_) rfl (by kernel_rfl) (by kernel_rfl) (by kernel_rfl) (fun _ _ _ h => h) (Or.inl ⟨by rfl, ?_⟩) hHeld ?_
            rotate_left
            · (intro w1 hSw; (try dsimp only at hSw); go_simp; all_goals with_reducible rfl)
            (try go_frame)
            refine wpAnyH_take (i := 3) (oi := ({ dst := some 24, op := Op.fieldAddr 64 (Operand.tmp 23) 0, type := 0, pos := "ref.go:75", after := #[{ on := 2, ground := Ground.data }], guard := none } : Oper)) (v := ?_) rfl (by kernel_rfl) (by kernel_rfl) (by kernel_rfl) (fun _ _ _ h => h) (Or.inl ⟨by rfl, ?_⟩) hHeld ?_
            rotate_left
            · (intro w1 hSw; (try dsimp only at hSw); go_simp; all_goals with_reducible rfl)
            (try go_frame)
            refine wpAnyH_take (i := 4) (oi := ({ dst := some 25, op := Op.load 3 (Operand.tmp 24), type := 3, pos := "ref.go:75", after := #[{ on := 3, ground := Ground.data }], guard := none } : Oper)) (v := ?_) rfl (by kernel_rfl) (by kernel_rfl) (by kernel_rfl) (fun _ _ _ h => h) (Or.inl ⟨by rfl, ?_⟩) hHeld ?_
            rotate_left
            · (intro w1 hSw; (try dsimp only at hSw); go_simp; all_goals with_reducible rfl)
            (try go_frame)
            refine wpAnyH_take (i := 5) (oi := ({ dst := some 26, op := Op.fieldAddr 76 (Operand.tmp 11) 1, type := 0, pos := "ref.go:75", after := #[], guard := none } : Oper)) (v := ?_) rfl (by kernel_rfl) (by kernel_rfl) (by kernel_rfl) (fun _ _ _ h => h) (Or.inl ⟨by rfl, ?_⟩) hHeld ?_
            rotate_left
            · (intro w1 hSw; (try dsimp only at hSw); go_simp; all_goals with_reducible rfl)
            (try go_frame)
            refine wpAnyH_take (i := 6) (oi := ({ dst := some 27, op := Op.load 3 (Operand.tmp 26), type := 3, pos := "ref.go:75", after := #[{ on := 5, ground := Ground.data }], guard := none } : Oper)) (v := ?_) rfl (by kernel_rfl) (by kernel_rfl) (by kernel_rfl) (fun _ _ _ h => h) (Or.inl ⟨by rfl, ?_⟩) hHeld ?_
            rotate_left
            · (intro w1 hSw; (try dsimp only at hSw); go_simp; all_goals with_reducible rfl)
            (try go_frame)
            refine wpAnyH_take (i := 9) (oi := ({ dst := some 30, op := Op.fieldAddr 76 (Operand.tmp 11) 0, type := 0, pos := "ref.go:75", after := #[], guard := none } : Oper)) (v := ?_) rfl (by kernel_rfl) (by kernel_rfl) (by kernel_rfl) (fun _ _ _ h => h) (Or.inl ⟨by rfl, ?_⟩) hHeld ?_
            rotate_left
            · (intro w1 hSw; (try dsimp only at hSw); go_simp; all_goals with_reducible rfl)
            (try go_frame)
            refine wpAnyH_take (i := 10) (oi := ({ dst := some 31, op := Op.load 29 (Operand.tmp 30), type := 29, pos := "ref.go:75", after := #[{ on := 9, ground := Ground.data }], guard := none } : Oper)) (v := ?_) rfl (by kernel_rfl) (by kernel_rfl) (by kernel_rfl) (fun _ _ _ h => h) (Or.inl ⟨by rfl, ?_⟩) hHeld ?_
            rotate_left
            · (intro w1 hSw; (try dsimp only at hSw); go_simp; all_goals with_reducible rfl)
            (try go_frame)
            refine wpAnyH_ready (rs := [7]) (by kernel_rfl) (by simp) ?_
            refine AllReadyH.cons (o := ({ dst := some 28, op := Op.call { callee := Callee.value (Operand.func 61), args := #[Operand.tmp 25, Operand.tmp 27], argTypes := #[3, 3] }, type := 29, pos := "ref.go:75", after := #[{ on := 4, ground := Ground.data }, { on := 6, ground := Ground.data }], guard := none } : Oper)) rfl (fun K hK => ?_) AllReadyH.nil
            go_simp
            go_wp2_with (go_at_call 61; (with_reducible refine (KL.out _).mono ?_); rintro en v1 ⟨rfl, hv1⟩)
            refine hK.out _ _ ?_ (fun hHeld2 => ?_)
            · exact HKS.out _ (below_call (And.left hHeld) (by assumption))
            clear hK K hHeld
            have hHeld := hHeld2
            clear hHeld2
            (try go_frame)
            refine wpAnyH_ready (rs := [8]) (by kernel_rfl) (by simp) ?_
            refine AllReadyH.cons (o := ({ dst := some 29, op := Op.call { callee := Callee.value (Operand.func 60), args := #[Operand.tmp 21, Operand.tmp 28], argTypes := #[29, 29] }, type := 29, pos := "ref.go:75", after := #[{ on := 0, ground := Ground.data }, { on := 7, ground := Ground.data }, { on := 7, ground := Ground.chain }], guard := none } : Oper)) rfl (fun K hK => ?_) AllReadyH.nil
            go_simp
            go_wp2_with (go_at_call 60; (with_reducible refine (KA.out _).mono ?_); rintro en v2 ⟨rfl, hv2⟩)
            refine hK.out _ _ ?_ (fun hHeld2 => ?_)
            · exact HKS.out _ (below_call (And.left hHeld) (by assumption))
            clear hK K hHeld
            have hHeld := hHeld2
            clear hHeld2
            (try go_frame)
            refine wpAnyH_take (i := 11) (oi := ({ dst := some 32, op := Op.binOp BinOp.eql 29 (Operand.tmp 29) (Operand.tmp 31) 29, type := 4, pos := "ref.go:75", after := #[{ on := 8, ground := Ground.data }, { on := 10, ground := Ground.data }], guard := none } : Oper)) (v := ?_) rfl (by kernel_rfl) (by kernel_rfl) (by kernel_rfl) (fun _ _ _ h => h) (Or.inl ⟨by rfl, ?_⟩) hHeld ?_
            rotate_left
            · (intro w1 hSw; (try dsimp only at hSw); go_simp; all_goals with_reducible rfl)
            (try go_frame)
            refine wpAnyH_take (i := 12) (oi := ({ dst := some 33, op := Op.move (Operand.tmp 32), type := 4, pos := "ref.go:75", after := #[{ on := 11, ground := Ground.data }, { on := 8, ground := Ground.chain }], guard := none } : Oper)) (v := ?_) rfl (by kernel_rfl) (by kernel_rfl) (by kernel_rfl) (fun _ _ _ h => h) (Or.inl ⟨by rfl, ?_⟩) hHeld ?_
            rotate_left
            · (intro w1 hSw; (try dsimp only at hSw); go_simp; all_goals with_reducible rfl)
            (try go_frame)
            refine wpAnyH_take (i := 13) (oi := ({ dst := some 34, op := Op.move (Operand.tmp 9), type := 4, pos := "ref.go:75", after := #[{ on := 12, ground := Ground.guard }], guard := some (12, true) } : Oper)) (v := ?_) rfl (by kernel_rfl) (by kernel_rfl) (by kernel_rfl) (fun _ _ _ h => h) (Or.inl ⟨by rfl, ?_⟩) hHeld ?_
            rotate_left
            · (intro w1 hSw; (try dsimp only at hSw); go_simp; all_goals with_reducible rfl)
            (try go_frame)
            refine wpAnyH_take (i := 14) (oi := ({ dst := some 35, op := Op.unOp UnOp.not 4 (Operand.tmp 34), type := 4, pos := "ref.go:75", after := #[{ on := 13, ground := Ground.data }, { on := 12, ground := Ground.guard }], guard := some (12, true) } : Oper)) (v := ?_) rfl (by kernel_rfl) (by kernel_rfl) (by kernel_rfl) (fun _ _ _ h => h) (Or.inl ⟨by rfl, ?_⟩) hHeld ?_
            rotate_left
            · (intro w1 hSw; (try dsimp only at hSw); go_simp; all_goals with_reducible rfl)
            (try go_frame)
            refine wpAnyH_take (i := 15) (oi := ({ dst := some 36, op := Op.move (Operand.tmp 35), type := 4, pos := "ref.go:75", after := #[{ on := 14, ground := Ground.data }, { on := 12, ground := Ground.chain }, { on := 12, ground := Ground.guard }], guard := some (12, true) } : Oper)) (v := ?_) rfl (by kernel_rfl) (by kernel_rfl) (by kernel_rfl) (fun _ _ _ h => h) (Or.inl ⟨by rfl, ?_⟩) hHeld ?_
            rotate_left
            · (intro w1 hSw; (try dsimp only at hSw); go_simp; all_goals with_reducible rfl)
            (try go_frame)
            refine wpAnyH_take (i := 16) (oi := ({ dst := some 37, op := Op.fieldAddr 76 (Operand.tmp 11) 1, type := 0, pos := "ref.go:75", after := #[{ on := 15, ground := Ground.guard }], guard := some (15, false) } : Oper)) (v := undef) rfl (by kernel_rfl) (by kernel_rfl) (by kernel_rfl) (fun _ _ _ h => h) (Or.inr ⟨by kernel_rfl, rfl⟩) hHeld ?_
            (try go_frame)
            refine wpAnyH_take (i := 17) (oi := ({ dst := some 38, op := Op.load 3 (Operand.tmp 37), type := 3, pos := "ref.go:75", after := #[{ on := 16, ground := Ground.data }, { on := 15, ground := Ground.guard }], guard := some (15, false) } : Oper)) (v := undef) rfl (by kernel_rfl) (by kernel_rfl) (by kernel_rfl) (fun _ _ _ h => h) (Or.inr ⟨by kernel_rfl, rfl⟩) hHeld ?_
            (try go_frame)
            refine wpAnyH_take (i := 18) (oi := ({ dst := some 39, op := Op.move (Operand.tmp 7), type := 3, pos := "ref.go:75", after := #[{ on := 15, ground := Ground.guard }], guard := some (15, false) } : Oper)) (v := undef) rfl (by kernel_rfl) (by kernel_rfl) (by kernel_rfl) (fun _ _ _ h => h) (Or.inr ⟨by kernel_rfl, rfl⟩) hHeld ?_
            (try go_frame)
            refine wpAnyH_take (i := 19) (oi := ({ dst := some 40, op := Op.binOp BinOp.gtr 3 (Operand.tmp 38) (Operand.tmp 39) 3, type := 4, pos := "ref.go:75", after := #[{ on := 17, ground := Ground.data }, { on := 18, ground := Ground.data }, { on := 15, ground := Ground.guard }], guard := some (15, false) } : Oper)) (v := undef) rfl (by kernel_rfl) (by kernel_rfl) (by kernel_rfl) (fun _ _ _ h => h) (Or.inr ⟨by kernel_rfl, rfl⟩) hHeld ?_
            (try go_frame)
            refine wpAnyH_take (i := 20) (oi := ({ dst := some 41, op := Op.pick (Operand.tmp 36) (Operand.const (Value.bool true)) (Operand.tmp 40), type := 4, pos := "ref.go:75", after := #[{ on := 15, ground := Ground.data }, { on := 19, ground := Ground.data }, { on := 12, ground := Ground.guard }], guard := some (12, true) } : Oper)) (v := ?_) rfl (by kernel_rfl) (by kernel_rfl) (by kernel_rfl) (fun _ _ _ h => h) (Or.inl ⟨by rfl, ?_⟩) hHeld ?_
            rotate_left
            · (intro w1 hSw; (try dsimp only at hSw); go_simp; all_goals with_reducible rfl)
            (try go_frame)
            refine wpAnyH_take (i := 21) (oi := ({ dst := some 42, op := Op.pick (Operand.tmp 33) (Operand.tmp 41) (Operand.const (Value.bool false)), type := 4, pos := "ref.go:75", after := #[{ on := 12, ground := Ground.data }, { on := 20, ground := Ground.data }], guard := none } : Oper)) (v := ?_) rfl (by kernel_rfl) (by kernel_rfl) (by kernel_rfl) (fun _ _ _ h => h) (Or.inl ⟨by rfl, ?_⟩) hHeld ?_
            rotate_left
            · (intro w1 hSw; (try dsimp only at hSw); go_simp; all_goals with_reducible rfl)
            (try go_frame)
            refine wpAnyH_take (i := 22) (oi := ({ dst := some 43, op := Op.move (Operand.tmp 42), type := 4, pos := "ref.go:75", after := #[{ on := 21, ground := Ground.data }, { on := 15, ground := Ground.chain }], guard := none } : Oper)) (v := ?_) rfl (by kernel_rfl) (by kernel_rfl) (by kernel_rfl) (fun _ _ _ h => h) (Or.inl ⟨by rfl, ?_⟩) hHeld ?_
            rotate_left
            · (intro w1 hSw; (try dsimp only at hSw); go_simp; all_goals with_reducible rfl)
            (try go_frame)
            refine wpAnyH_take (i := 23) (oi := ({ dst := some 44, op := Op.load 29 (Operand.tmp 3), type := 29, pos := "ref.go:75", after := #[{ on := 22, ground := Ground.guard }], guard := some (22, true) } : Oper)) (v := ?_) rfl (by kernel_rfl) (by kernel_rfl) (by kernel_rfl) (fun _ _ _ h => h) (Or.inl ⟨by rfl, ?_⟩) hHeld ?_
            rotate_left
            · (intro w1 hSw; (try dsimp only at hSw); go_simp; all_goals with_reducible rfl)
            (try go_frame)
            refine wpAnyH_take (i := 24) (oi := ({ dst := some 45, op := Op.move (Operand.tmp 0), type := 56, pos := "ref.go:75", after := #[{ on := 22, ground := Ground.guard }], guard := some (22, true) } : Oper)) (v := ?_) rfl (by kernel_rfl) (by kernel_rfl) (by kernel_rfl) (fun _ _ _ h => h) (Or.inl ⟨by rfl, ?_⟩) hHeld ?_
            rotate_left
            · (intro w1 hSw; (try dsimp only at hSw); go_simp; all_goals with_reducible rfl)
            (try go_frame)
            refine wpAnyH_take (i := 25) (oi := ({ dst := some 46, op := Op.nilCheck (Operand.tmp 45), type := 0, pos := "ref.go:75", after := #[{ on := 24, ground := Ground.data }, { on := 22, ground := Ground.guard }], guard := some (22, true) } : Oper)) (v := ?_) rfl (by kernel_rfl) (by kernel_rfl) (by kernel_rfl) (fun _ _ _ h => h) (Or.inl ⟨by rfl, ?_⟩) hHeld ?_
            rotate_left
            · (intro w1 hSw; (try dsimp only at hSw); go_simp; all_goals with_reducible rfl)
            (try go_frame)
            refine wpAnyH_take (i := 26) (oi := ({ dst := some 47, op := Op.fieldAddr 64 (Operand.tmp 46) 0, type := 0, pos := "ref.go:75", after := #[{ on := 25, ground := Ground.data }, { on := 22, ground := Ground.guard }], guard := some (22, true) } : Oper)) (v := ?_) rfl (by kernel_rfl) (by kernel_rfl) (by kernel_rfl) (fun _ _ _ h => h) (Or.inl ⟨by rfl, ?_⟩) hHeld ?_
            rotate_left
            · (intro w1 hSw; (try dsimp only at hSw); go_simp; all_goals with_reducible rfl)
            (try go_frame)
            refine wpAnyH_take (i := 27) (oi := ({ dst := some 48, op := Op.load 3 (Operand.tmp 47), type := 3, pos := "ref.go:75", after := #[{ on := 26, ground := Ground.data }, { on := 22, ground := Ground.guard }], guard := some (22, true) } : Oper)) (v := ?_) rfl (by kernel_rfl) (by kernel_rfl) (by kernel_rfl) (fun _ _ _ h => h) (Or.inl ⟨by rfl, ?_⟩) hHeld ?_
            rotate_left
            · (intro w1 hSw; (try dsimp only at hSw); go_simp; all_goals with_reducible rfl)
            (try go_frame)
            refine wpAnyH_ready (rs := [28]) (by kernel_rfl) (by simp) ?_
            refine AllReadyH.cons (o := ({ dst := some 49, op := Op.call { callee := Callee.value (Operand.func 74), args := #[Operand.tmp 44, Operand.tmp 48], argTypes := #[29, 3] }, type := 4, pos := "ref.go:75", after := #[{ on := 23, ground := Ground.data }, { on := 27, ground := Ground.data }, { on := 22, ground := Ground.chain }, { on := 22, ground := Ground.guard }], guard := some (22, true) } : Oper)) rfl (fun K hK => ?_) AllReadyH.nil
            go_simp
            go_wp2_with (go_at_call 74; (with_reducible refine (KF.out _).mono ?_); rintro en v3 ⟨rfl, hv3⟩)
            refine hK.out _ _ ?_ (fun hHeld2 => ?_)
            · exact HKS.out _ (below_call (And.left hHeld) (by assumption))
            clear hK K hHeld
            have hHeld := hHeld2
            clear hHeld2
            (try go_frame)
            refine wpAnyH_take (i := 29) (oi := ({ dst := some 50, op := Op.pick (Operand.tmp 43) (Operand.tmp 49) (Operand.const (Value.bool false)), type := 4, pos := "ref.go:75", after := #[{ on := 22, ground := Ground.data }, { on := 28, ground := Ground.data }], guard := none } : Oper)) (v := ?_) rfl (by kernel_rfl) (by kernel_rfl) (by kernel_rfl) (fun _ _ _ h => h) (Or.inl ⟨by rfl, ?_⟩) hHeld ?_
            rotate_left
            · (intro w1 hSw; (try dsimp only at hSw); go_simp; all_goals with_reducible rfl)
            (try go_frame)
            refine wpAnyH_done (by kernel_rfl) ?_ _
            refine NoPanic.normal ?_
            (try go_frame)
            obtain ⟨hBx, s0, s1, s2, s3, s4, s5, s6⟩ := hHeld
            have HBX := Lib.hid (HBW.out.trans (hBx.mono HBW.out.size))
            clear hBx
            go_wp2_with fail
            go_roundw
            case rel => exact ⟨k + 1, _, _, _, by omega, by simp, rfl, rfl, rfl, HNX.out.trans (stepE_no (.inr (.inr HFB.out))), HBX.out⟩
            case measure => simp [intOf]; omega
          · have hE := HE.out
            have hG := HG.out
            go_upto_region 5 with fail
            rw [← HW0.out]
            clear p0 p1 p2 p3
            refine wp_region_noPanic ?_
            refine wp_region_held_drew (S := fun w' => Below W0.heap.size W0 w' ∧ w'.cell? ⟨w.heap.size, 0, none⟩ = some (.int .u64 (hi u)) ∧ w'.cell? ⟨w.heap.size, 1, none⟩ = some (.int .u64 (lo u)) ∧ w'.cell? ⟨wr.heap.size, 0, none⟩ = some (.int .u64 (hi q.v)) ∧ w'.cell? ⟨wr.heap.size, 1, none⟩ = some (.int .u64 (lo q.v)) ∧ w'.cell? ⟨wr.heap.size, 2, none⟩ = some (.int .i64 q.n) ∧ w'.cell? ⟨wr.heap.size, 3, none⟩ = some (.int .i64 q.id) ∧ w'.cell? ⟨Y, 0, none⟩ = some (.int .i64 bits)) (by kernel_rfl) (HKS.out _ (Below.drew (Below.refl _ _))) (fun hHeld => ?_)
            refine wpAnyH_take (i := 0) (oi := ({ dst := some 21, op := Op.load 29 (Operand.tmp 3), type := 29, pos := "ref.go:75", after := #[], guard := none } : Oper)) (v := ?_) rfl (by kernel_rfl) (by kernel_rfl) (by kernel_rfl) (fun _ _ _ h => h) (Or.inl ⟨by rfl, ?_⟩) hHeld ?_
            rotate_left
            · (intro w1 hSw; (try dsimp only at hSw); go_simp; all_goals with_reducible rfl)
            (try go_frame)
            refine wpAnyH_take (i := 1) (oi := ({ dst := some 22, op := Op.move (Operand.tmp 0), type := 56, pos := "ref.go:75", after := #[], guard := none } : Oper)) (v := ?_) rfl (by kernel_rfl) (by kernel_rfl) (by kernel_rfl) (fun _ _ _ h => h) (Or.inl ⟨by rfl, ?_⟩) hHeld ?_
            rotate_left
            · (intro w1 hSw; (try dsimp only at hSw); go_simp; all_goals with_reducible rfl)
            (try go_frame)
            refine wpAnyH_take (i := 2) (oi := ({ dst := some 23, op := Op.nilCheck (Operand.tmp 22), type := 0, pos := "ref.go:75", after := #[{ on := 1, ground := Ground.data }], guard := none } : Oper)) (v := ?_) rfl (by kernel_rfl) (by kernel_rfl) (by kernel_rfl) (fun _ _ _ h => h) (Or.inl ⟨by rfl, ?_⟩) hHeld ?_
            rotate_left
            · (intro w1 hSw; (try dsimp only at hSw); go_simp; all_goals with_reducible rfl)
            (try go_frame)
            refine wpAnyH_take (i := 3) (oi := ({ dst := some 24, op := Op.fieldAddr 64 (Operand.tmp 23) 0, type := 0, pos := "ref.go:75", after := #[{ on := 2, ground := Ground.data }], guard := none } : Oper)) (v := ?_) rfl (by kernel_rfl) (by kernel_rfl) (by kernel_rfl) (fun _ _ _ h => h) (Or.inl ⟨by rfl, ?_⟩) hHeld ?_
            rotate_left
            · (intro w1 hSw; (try dsimp only at hSw); go_simp; all_goals with_reducible rfl)
            (try go_frame)
            refine wpAnyH_take (i := 4) (oi := ({ dst := some 25, op := Op.load 3 (Operand.tmp 24), type := 3, pos := "ref.go:75", after := #[{ on := 3, ground := Ground.data }], guard := none } : Oper)) (v := ?_) rfl (by kernel_rfl) (by kernel_rfl) (by kernel_rfl) (fun _ _ _ h => h) (Or.inl ⟨by rfl, ?_⟩) hHeld ?_
            rotate_left
            · (intro w1 hSw; (try dsimp only at hSw); go_simp; all_goals with_reducible rfl)
            (try go_frame)
            refine wpAnyH_take (i := 5) (oi := ({ dst := some 26, op := Op.fieldAddr 76 (Operand.tmp 11) 1, type := 0, pos := "ref.go:75", after := #[], guard := none } : Oper)) (v := ?_) rfl (by kernel_rfl) (by kernel_rfl) (by kernel_rfl) (fun _ _ _ h => h) (Or.inl ⟨by rfl, ?_⟩) hHeld ?_
            rotate_left
            · (intro w1 hSw; (try dsimp only at hSw); go_simp; all_goals with_reducible rfl)
            (try go_frame)
            refine wpAnyH_take (i := 6) (oi := ({ dst := some 27, op := Op.load 3 (Operand.tmp 26), type := 3, pos := "ref.go:75", after := #[{ on := 5, ground := Ground.data }], guard := none } : Oper)) (v := ?_) rfl (by kernel_rfl) (by kernel_rfl) (by kernel_rfl) (fun _ _ _ h => h) (Or.inl ⟨by rfl, ?_⟩) hHeld ?_
            rotate_left
            · (intro w1 hSw; (try dsimp only at hSw); go_simp; all_goals with_reducible rfl)
            (try go_frame)
            refine wpAnyH_take (i := 9) (oi := ({ dst := some 30, op := Op.fieldAddr 76 (Operand.tmp 11) 0, type := 0, pos := "ref.go:75", after := #[], guard := none } : Oper)) (v := ?_) rfl (by kernel_rfl) (by kernel_rfl) (by kernel_rfl) (fun _ _ _ h => h) (Or.inl ⟨by rfl, ?_⟩) hHeld ?_
            rotate_left
            · (intro w1 hSw; (try dsimp only at hSw); go_simp; all_goals with_reducible rfl)
            (try go_frame)
            refine wpAnyH_take (i := 10) (oi := ({ dst := some 31, op := Op.load 29 (Operand.tmp 30), type := 29, pos := "ref.go:75", after := #[{ on := 9, ground := Ground.data }], guard := none } : Oper)) (v := ?_) rfl (by kernel_rfl) (by kernel_rfl) (by kernel_rfl) (fun _ _ _ h => h) (Or.inl ⟨by rfl, ?_⟩) hHeld ?_
            rotate_left
            · (intro w1 hSw; (try dsimp only at hSw); go_simp; all_goals with_reducible rfl)
            (try go_frame)
            refine wpAnyH_ready (rs := [7]) (by kernel_rfl) (by simp) ?_
            refine AllReadyH.cons (o := ({ dst := some 28, op := Op.call { callee := Callee.value (Operand.func 61), args := #[Operand.tmp 25, Operand.tmp 27], argTypes := #[3, 3] }, type := 29, pos := "ref.go:75", after := #[{ on := 4, ground := Ground.data }, { on := 6, ground := Ground.data }], guard := none } : Oper)) rfl (fun K hK => ?_) AllReadyH.nil
            go_simp
            go_wp2_with (go_at_call 61; (with_reducible refine (KL.out _).mono ?_); rintro en v1 ⟨rfl, hv1⟩)
            refine hK.out _ _ ?_ (fun hHeld2 => ?_)
            · exact HKS.out _ (below_call (And.left hHeld) (by assumption))
            clear hK K hHeld
            have hHeld := hHeld2
            clear hHeld2
            (try go_frame)
            refine wpAnyH_ready (rs := [8]) (by kernel_rfl) (by simp) ?_
            refine AllReadyH.cons (o := ({ dst := some 29, op := Op.call { callee := Callee.value (Operand.func 60), args := #[Operand.tmp 21, Operand.tmp 28], argTypes := #[29, 29] }, type := 29, pos := "ref.go:75", after := #[{ on := 0, ground := Ground.data }, { on := 7, ground := Ground.data }, { on := 7, ground := Ground.chain }], guard := none } : Oper)) rfl (fun K hK => ?_) AllReadyH.nil
            go_simp
            go_wp2_with (go_at_call 60; (with_reducible refine (KA.out _).mono ?_); rintro en v2 ⟨rfl, hv2⟩)
            refine hK.out _ _ ?_ (fun hHeld2 => ?_)
            · exact HKS.out _ (below_call (And.left hHeld) (by assumption))
            clear hK K hHeld
            have hHeld := hHeld2
            clear hHeld2
            (try go_frame)
            refine wpAnyH_take (i := 11) (oi := ({ dst := some 32, op := Op.binOp BinOp.eql 29 (Operand.tmp 29) (Operand.tmp 31) 29, type := 4, pos := "ref.go:75", after := #[{ on := 8, ground := Ground.data }, { on := 10, ground := Ground.data }], guard := none } : Oper)) (v := ?_) rfl (by kernel_rfl) (by kernel_rfl) (by kernel_rfl) (fun _ _ _ h => h) (Or.inl ⟨by rfl, ?_⟩) hHeld ?_
            rotate_left
            · (intro w1 hSw; (try dsimp only at hSw); go_simp; all_goals with_reducible rfl)
            (try go_frame)
            refine wpAnyH_take (i := 12) (oi := ({ dst := some 33, op := Op.move (Operand.tmp 32), type := 4, pos := "ref.go:75", after := #[{ on := 11, ground := Ground.data }, { on := 8, ground := Ground.chain }], guard := none } : Oper)) (v := ?_) rfl (by kernel_rfl) (by kernel_rfl) (by kernel_rfl) (fun _ _ _ h => h) (Or.inl ⟨by rfl, ?_⟩) hHeld ?_
            rotate_left
            · (intro w1 hSw; (try dsimp only at hSw); go_simp; all_goals with_reducible rfl)
            (try go_frame)
            refine wpAnyH_take (i := 13) (oi := ({ dst := some 34, op := Op.move (Operand.tmp 9), type := 4, pos := "ref.go:75", after := #[{ on := 12, ground := Ground.guard }], guard := some (12, true) } : Oper)) (v := ?_) rfl (by kernel_rfl) (by kernel_rfl) (by kernel_rfl) (fun _ _ _ h => h) (Or.inl ⟨by rfl, ?_⟩) hHeld ?_
            rotate_left
            · (intro w1 hSw; (try dsimp only at hSw); go_simp; all_goals with_reducible rfl)
            (try go_frame)
            refine wpAnyH_take (i := 14) (oi := ({ dst := some 35, op := Op.unOp UnOp.not 4 (Operand.tmp 34), type := 4, pos := "ref.go:75", after := #[{ on := 13, ground := Ground.data }, { on := 12, ground := Ground.guard }], guard := some (12, true) } : Oper)) (v := ?_) rfl (by kernel_rfl) (by kernel_rfl) (by kernel_rfl) (fun _ _ _ h => h) (Or.inl ⟨by rfl, ?_⟩) hHeld ?_
            rotate_left
            · (intro w1 hSw; (try dsimp only at hSw); go_simp; all_goals with_reducible rfl)
            (try go_frame)
            refine wpAnyH_take (i := 15) (oi := ({ dst := some 36, op := Op.move (Operand.tmp 35), type := 4, pos := "ref.go:75", after := #[{ on := 14, ground := Ground.data }, { on := 12, ground := Ground.chain }, { on := 12, ground := Ground.guard }], guard := some (12, true) } : Oper)) (v := ?_) rfl (by kernel_rfl) (by kernel_rfl) (by kernel_rfl) (fun _ _ _ h => h) (Or.inl ⟨by rfl, ?_⟩) hHeld ?_
            rotate_left
            · (intro w1 hSw; (try dsimp only at hSw); go_simp; all_goals with_reducible rfl)
            (try go_frame)
            refine wpAnyH_take (i := 16) (oi := ({ dst := some 37, op := Op.fieldAddr 76 (Operand.tmp 11) 1, type := 0, pos := "ref.go:75", after := #[{ on := 15, ground := Ground.guard }], guard := some (15, false) } : Oper)) (v := undef) rfl (by kernel_rfl) (by kernel_rfl) (by kernel_rfl) (fun _ _ _ h => h) (Or.inr ⟨by kernel_rfl, rfl⟩) hHeld ?_
            (try go_frame)
            refine wpAnyH_take (i := 17) (oi := ({ dst := some 38, op := Op.load 3 (Operand.tmp 37), type := 3, pos := "ref.go:75", after := #[{ on := 16, ground := Ground.data }, { on := 15, ground := Ground.guard }], guard := some (15, false) } : Oper)) (v := undef) rfl (by kernel_rfl) (by kernel_rfl) (by kernel_rfl) (fun _ _ _ h => h) (Or.inr ⟨by kernel_rfl, rfl⟩) hHeld ?_
            (try go_frame)
            refine wpAnyH_take (i := 18) (oi := ({ dst := some 39, op := Op.move (Operand.tmp 7), type := 3, pos := "ref.go:75", after := #[{ on := 15, ground := Ground.guard }], guard := some (15, false) } : Oper)) (v := undef) rfl (by kernel_rfl) (by kernel_rfl) (by kernel_rfl) (fun _ _ _ h => h) (Or.inr ⟨by kernel_rfl, rfl⟩) hHeld ?_
            (try go_frame)
            refine wpAnyH_take (i := 19) (oi := ({ dst := some 40, op := Op.binOp BinOp.gtr 3 (Operand.tmp 38) (Operand.tmp 39) 3, type := 4, pos := "ref.go:75", after := #[{ on := 17, ground := Ground.data }, { on := 18, ground := Ground.data }, { on := 15, ground := Ground.guard }], guard := some (15, false) } : Oper)) (v := undef) rfl (by kernel_rfl) (by kernel_rfl) (by kernel_rfl) (fun _ _ _ h => h) (Or.inr ⟨by kernel_rfl, rfl⟩) hHeld ?_
            (try go_frame)
            refine wpAnyH_take (i := 20) (oi := ({ dst := some 41, op := Op.pick (Operand.tmp 36) (Operand.const (Value.bool true)) (Operand.tmp 40), type := 4, pos := "ref.go:75", after := #[{ on := 15, ground := Ground.data }, { on := 19, ground := Ground.data }, { on := 12, ground := Ground.guard }], guard := some (12, true) } : Oper)) (v := ?_) rfl (by kernel_rfl) (by kernel_rfl) (by kernel_rfl) (fun _ _ _ h => h) (Or.inl ⟨by rfl, ?_⟩) hHeld ?_
            rotate_left
            · (intro w1 hSw; (try dsimp only at hSw); go_simp; all_goals with_reducible rfl)
            (try go_frame)
            refine wpAnyH_take (i := 21) (oi := ({ dst := some 42, op := Op.pick (Operand.tmp 33) (Operand.tmp 41) (Operand.const (Value.bool false)), type := 4, pos := "ref.go:75", after := #[{ on := 12, ground := Ground.data }, { on := 20, ground := Ground.data }], guard := none } : Oper)) (v := ?_) rfl (by kernel_rfl) (by kernel_rfl) (by kernel_rfl) (fun _ _ _ h => h) (Or.inl ⟨by rfl, ?_⟩) hHeld ?_
            rotate_left
            · (intro w1 hSw; (try dsimp only at hSw); go_simp; all_goals with_reducible rfl)
            (try go_frame)
            refine wpAnyH_take (i := 22) (oi := ({ dst := some 43, op := Op.move (Operand.tmp 42), type := 4, pos := "ref.go:75", after := #[{ on := 21, ground := Ground.data }, { on := 15, ground := Ground.chain }], guard := none } : Oper)) (v := ?_) rfl (by kernel_rfl) (by kernel_rfl) (by kernel_rfl) (fun _ _ _ h => h) (Or.inl ⟨by rfl, ?_⟩) hHeld ?_
            rotate_left
            · (intro w1 hSw; (try dsimp only at hSw); go_simp; all_goals with_reducible rfl)
            (try go_frame)
            refine wpAnyH_take (i := 23) (oi := ({ dst := some 44, op := Op.load 29 (Operand.tmp 3), type := 29, pos := "ref.go:75", after := #[{ on := 22, ground := Ground.guard }], guard := some (22, true) } : Oper)) (v := ?_) rfl (by kernel_rfl) (by kernel_rfl) (by kernel_rfl) (fun _ _ _ h => h) (Or.inl ⟨by rfl, ?_⟩) hHeld ?_
            rotate_left
            · (intro w1 hSw; (try dsimp only at hSw); go_simp; all_goals with_reducible rfl)
            (try go_frame)
            refine wpAnyH_take (i := 24) (oi := ({ dst := some 45, op := Op.move (Operand.tmp 0), type := 56, pos := "ref.go:75", after := #[{ on := 22, ground := Ground.guard }], guard := some (22, true) } : Oper)) (v := ?_) rfl (by kernel_rfl) (by kernel_rfl) (by kernel_rfl) (fun _ _ _ h => h) (Or.inl ⟨by rfl, ?_⟩) hHeld ?_
            rotate_left
            · (intro w1 hSw; (try dsimp only at hSw); go_simp; all_goals with_reducible rfl)
            (try go_frame)
            refine wpAnyH_take (i := 25) (oi := ({ dst := some 46, op := Op.nilCheck (Operand.tmp 45), type := 0, pos := "ref.go:75", after := #[{ on := 24, ground := Ground.data }, { on := 22, ground := Ground.guard }], guard := some (22, true) } : Oper)) (v := ?_) rfl (by kernel_rfl) (by kernel_rfl) (by kernel_rfl) (fun _ _ _ h => h) (Or.inl ⟨by rfl, ?_⟩) hHeld ?_
            rotate_left
            · (intro w1 hSw; (try dsimp only at hSw); go_simp; all_goals with_reducible rfl)
            (try go_frame)
            refine wpAnyH_take (i := 26) (oi := ({ dst := some 47, op := Op.fieldAddr 64 (Operand.tmp 46) 0, type := 0, pos := "ref.go:75", after := #[{ on := 25, ground := Ground.data }, { on := 22, ground := Ground.guard }], guard := some (22, true) } : Oper)) (v := ?_) rfl (by kernel_rfl) (by kernel_rfl) (by kernel_rfl) (fun _ _ _ h => h) (Or.inl ⟨by rfl, ?_⟩) hHeld ?_
            rotate_left
            · (intro w1 hSw; (try dsimp only at hSw); go_simp; all_goals with_reducible rfl)
            (try go_frame)
            refine wpAnyH_take (i := 27) (oi := ({ dst := some 48, op := Op.load 3 (Operand.tmp 47), type := 3, pos := "ref.go:75", after := #[{ on := 26, ground := Ground.data }, { on := 22, ground := Ground.guard }], guard := some (22, true) } : Oper)) (v := ?_) rfl (by kernel_rfl) (by kernel_rfl) (by kernel_rfl) (fun _ _ _ h => h) (Or.inl ⟨by rfl, ?_⟩) hHeld ?_
            rotate_left
            · (intro w1 hSw; (try dsimp only at hSw); go_simp; all_goals with_reducible rfl)
            (try go_frame)
            refine wpAnyH_ready (rs := [28]) (by kernel_rfl) (by simp) ?_
            refine AllReadyH.cons (o := ({ dst := some 49, op := Op.call { callee := Callee.value (Operand.func 74), args := #[Operand.tmp 44, Operand.tmp 48], argTypes := #[29, 3] }, type := 4, pos := "ref.go:75", after := #[{ on := 23, ground := Ground.data }, { on := 27, ground := Ground.data }, { on := 22, ground := Ground.chain }, { on := 22, ground := Ground.guard }], guard := some (22, true) } : Oper)) rfl (fun K hK => ?_) AllReadyH.nil
            go_simp
            go_wp2_with (go_at_call 74; (with_reducible refine (KF.out _).mono ?_); rintro en v3 ⟨rfl, hv3⟩)
            refine hK.out _ _ ?_ (fun hHeld2 => ?_)
            · exact HKS.out _ (below_call (And.left hHeld) (by assumption))
            clear hK K hHeld
            have hHeld := hHeld2
            clear hHeld2
            (try go_frame)
            refine wpAnyH_take (i := 29) (oi := ({ dst := some 50, op := Op.pick (Operand.tmp 43) (Operand.tmp 49) (Operand.const (Value.bool false)), type := 4, pos := "ref.go:75", after := #[{ on := 22, ground := Ground.data }, { on := 28, ground := Ground.data }], guard := none } : Oper)) (v := ?_) rfl (by kernel_rfl) (by kernel_rfl) (by kernel_rfl) (fun _ _ _ h => h) (Or.inl ⟨by rfl, ?_⟩) hHeld ?_
            rotate_left
            · (intro w1 hSw; (try dsimp only at hSw); go_simp; all_goals with_reducible rfl)
            (try go_frame)
            refine wpAnyH_done (by kernel_rfl) ?_ _
            refine NoPanic.normal ?_
            (try go_frame)
            obtain ⟨hBx, s0, s1, s2, s3, s4, s5, s6⟩ := hHeld
            have HBX := Lib.hid (HBW.out.trans (hBx.mono HBW.out.size))
            clear hBx
            go_wp2_with fail
            go_quiet (fail)
            go_wp2_with fail
            go_roundw
            case rel => exact ⟨k + 1, _, _, _, by omega, by simp, rfl, rfl, rfl, HNX.out.trans (stepE_yes HCV.out (.inl rfl) HFB.out), HBX.out.trans (below_dnU _ _ _)⟩
            case measure => simp [intOf]; omega
        · by_cases hl : an < q.n
          · have hl1 : (an : Int) < (q.n : Int) := by omega
            have HL := Lib.hid hl
            have hl2 : decide ((an : Int) < (q.n : Int)) = true := decide_eq_true hl1
            clear hl
            cases fb
            · have hE := HE.out
              have hG := HG.out
              go_upto_region 5 with fail
              rw [← HW0.out]
              clear p0 p1 p2 p3
              refine wp_region_noPanic ?_
              refine wp_region_held_drew (S := fun w' => Below W0.heap.size W0 w' ∧ w'.cell? ⟨w.heap.size, 0, none⟩ = some (.int .u64 (hi u)) ∧ w'.cell? ⟨w.heap.size, 1, none⟩ = some (.int .u64 (lo u)) ∧ w'.cell? ⟨wr.heap.size, 0, none⟩ = some (.int .u64 (hi q.v)) ∧ w'.cell? ⟨wr.heap.size, 1, none⟩ = some (.int .u64 (lo q.v)) ∧ w'.cell? ⟨wr.heap.size, 2, none⟩ = some (.int .i64 q.n) ∧ w'.cell? ⟨wr.heap.size, 3, none⟩ = some (.int .i64 q.id) ∧ w'.cell? ⟨Y, 0, none⟩ = some (.int .i64 bits)) (by kernel_rfl) (HKS.out _ (Below.drew (Below.refl _ _))) (fun hHeld => ?_)
              refine wpAnyH_take (i := 0) (oi := ({ dst := some 21, op := Op.load 29 (Operand.tmp 3), type := 29, pos := "ref.go:75", after := #[], guard := none } : Oper)) (v := ?_) rfl (by kernel_rfl) (by kernel_rfl) (by kernel_rfl) (fun _ _ _ h => h) (Or.inl ⟨by rfl, ?_⟩) hHeld ?_
              rotate_left
              · (intro w1 hSw; (try dsimp only at hSw); go_simp; all_goals with_reducible rfl)
              (try go_frame)
              refine wpAnyH_take (i := 1) (oi := ({ dst := some 22, op := Op.move (Operand.tmp 0), type := 56, pos := "ref.go:75", after := #[], guard := none } : Oper)) (v := ?_) rfl (by kernel_rfl) (by kernel_rfl) (by kernel_rfl) (fun _ _ _ h => h) (Or.inl ⟨by rfl, ?_⟩) hHeld ?_
              rotate_left
              · (intro w1 hSw; (try dsimp only at hSw); go_simp; all_goals with_reducible rfl)
              (try go_frame)
              refine wpAnyH_take (i := 2) (oi := ({ dst := some 23, op := Op.nilCheck (Operand.tmp 22), type := 0, pos := "ref.go:75", after := #[{ on := 1, ground := Ground.data }], guard := none } : Oper)) (v := ?_) rfl (by kernel_rfl) (by kernel_rfl) (by kernel_rfl) (fun _ _ _ h => h) (Or.inl ⟨by rfl, ?_⟩) hHeld ?_
              rotate_left
              · (intro w1 hSw; (try dsimp only at hSw); go_simp; all_goals with_reducible rfl)
              (try go_frame)
              refine wpAnyH_take (i := 3) (oi := ({ dst := some 24, op := Op.fieldAddr 64 (Operand.tmp 23) 0, type := 0, pos := "ref.go:75", after := #[{ on := 2, ground := Ground.data }], guard := none } : Oper)) (v := ?_) rfl (by kernel_rfl) (by kernel_rfl) (by kernel_rfl) (fun _ _ _ h => h) (Or.inl ⟨by rfl, ?_⟩) hHeld ?_
              rotate_left
              · (intro w1 hSw; (try dsimp only at hSw); go_simp; all_goals with_reducible rfl)
              (try go_frame)
              refine wpAnyH_take (i := 4) (oi := ({ dst := some 25, op := Op.load 3 (Operand.tmp 24), type := 3, pos := "ref.go:75", after := #[{ on := 3, ground := Ground.data }], guard := none } : Oper)) (v := ?_) rfl (by kernel_rfl) (by kernel_rfl) (by kernel_rfl) (fun _ _ _ h => h) (Or.inl ⟨by rfl, ?_⟩) hHeld ?_
              rotate_left
              · (intro w1 hSw; (try dsimp only at hSw); go_simp; all_goals with_reducible rfl)
              (try go_frame)
              refine wpAnyH_take (i := 5) (oi := ({ dst := some 26, op := Op.fieldAddr 76 (Operand.tmp 11) 1, type := 0, pos := "ref.go:75", after := #[], guard := none } : Oper)) (v := ?_) rfl (by kernel_rfl) (by kernel_rfl) (by kernel_rfl) (fun _ _ _ h => h) (Or.inl ⟨by rfl, ?_⟩) hHeld ?_
              rotate_left
              · (intro w1 hSw; (try dsimp only at hSw); go_simp; all_goals with_reducible rfl)
              (try go_frame)
              refine wpAnyH_take (i := 6) (oi := ({ dst := some 27, op := Op.load 3 (Operand.tmp 26), type := 3, pos := "ref.go:75", after := #[{ on := 5, ground := Ground.data }], guard := none } : Oper)) (v := ?_) rfl (by kernel_rfl) (by kernel_rfl) (by kernel_rfl) (fun _ _ _ h => h) (Or.inl ⟨by rfl, ?_⟩) hHeld ?_
              rotate_left
              · (intro w1 hSw; (try dsimp only at hSw); go_simp; all_goals with_reducible rfl)
              (try go_frame)
              refine wpAnyH_take (i := 9) (oi := ({ dst := some 30, op := Op.fieldAddr 76 (Operand.tmp 11) 0, type := 0, pos := "ref.go:75", after := #[], guard := none } : Oper)) (v := ?_) rfl (by kernel_rfl) (by kernel_rfl) (by kernel_rfl) (fun _ _ _ h => h) (Or.inl ⟨by rfl, ?_⟩) hHeld ?_
              rotate_left
              · (intro w1 hSw; (try dsimp only at hSw); go_simp; all_goals with_reducible rfl)
              (try go_frame)
              refine wpAnyH_take (i := 10) (oi := ({ dst := some 31, op := Op.load 29 (Operand.tmp 30), type := 29, pos := "ref.go:75", after := #[{ on := 9, ground := Ground.data }], guard := none } : Oper)) (v := ?_) rfl (by kernel_rfl) (by kernel_rfl) (by kernel_rfl) (fun _ _ _ h => h) (Or.inl ⟨by rfl, ?_⟩) hHeld ?_
              rotate_left
              · (intro w1 hSw; (try dsimp only at hSw); go_simp; all_goals with_reducible rfl)
              (try go_frame)
              refine wpAnyH_ready (rs := [7]) (by kernel_rfl) (by simp) ?_
              refine AllReadyH.cons (o := ({ dst := some 28, op := Op.call { callee := Callee.value (Operand.func 61), args := #[Operand.tmp 25, Operand.tmp 27], argTypes := #[3, 3] }, type := 29, pos := "ref.go:75", after := #[{ on := 4, ground := Ground.data }, { on := 6, ground := Ground.data }], guard := none } : Oper)) rfl (fun K hK => ?_) AllReadyH.nil
              go_simp
              go_wp2_with (go_at_call 61; (with_reducible refine (KL.out _).mono ?_); rintro en v1 ⟨rfl, hv1⟩)
              refine hK.out _ _ ?_ (fun hHeld2 => ?_)
              · exact HKS.out _ (below_call (And.left hHeld) (by assumption))
              clear hK K hHeld
              have hHeld := hHeld2
              clear hHeld2
              (try go_frame)
              refine wpAnyH_ready (rs := [8]) (by kernel_rfl) (by simp) ?_
              refine AllReadyH.cons (o := ({ dst := some 29, op := Op.call { callee := Callee.value (Operand.func 60), args := #[Operand.tmp 21, Operand.tmp 28], argTypes := #[29, 29] }, type := 29, pos := "ref.go:75", after := #[{ on := 0, ground := Ground.data }, { on := 7, ground := Ground.data }, { on := 7, ground := Ground.chain }], guard := none } : Oper)) rfl (fun K hK => ?_) AllReadyH.nil
              go_simp
              go_wp2_with (go_at_call 60; (with_reducible refine (KA.out _).mono ?_); rintro en v2 ⟨rfl, hv2⟩)
              refine hK.out _ _ ?_ (fun hHeld2 => ?_)
              · exact HKS.out _ (below_call (And.left hHeld) (by assumption))
              clear hK K hHeld
              have hHeld := hHeld2
              clear hHeld2
              (try go_frame)
              refine wpAnyH_take (i := 11) (oi := ({ dst := some 32, op := Op.binOp BinOp.eql 29 (Operand.tmp 29) (Operand.tmp 31) 29, type := 4, pos := "ref.go:75", after := #[{ on := 8, ground := Ground.data }, { on := 10, ground := Ground.data }], guard := none } : Oper)) (v := ?_) rfl (by kernel_rfl) (by kernel_rfl) (by kernel_rfl) (fun _ _ _ h => h) (Or.inl ⟨by rfl, ?_⟩) hHeld ?_
              rotate_left
              · (intro w1 hSw; (try dsimp only at hSw); go_simp; all_goals with_reducible rfl)
              (try go_frame)
              refine wpAnyH_take (i := 12) (oi := ({ dst := some 33, op := Op.move (Operand.tmp 32), type := 4, pos := "ref.go:75", after := #[{ on := 11, ground := Ground.data }, { on := 8, ground := Ground.chain }], guard := none } : Oper)) (v := ?_) rfl (by kernel_rfl) (by kernel_rfl) (by kernel_rfl) (fun _ _ _ h => h) (Or.inl ⟨by rfl, ?_⟩) hHeld ?_
              rotate_left
              · (intro w1 hSw; (try dsimp only at hSw); go_simp; all_goals with_reducible rfl)
              (try go_frame)
              refine wpAnyH_take (i := 13) (oi := ({ dst := some 34, op := Op.move (Operand.tmp 9), type := 4, pos := "ref.go:75", after := #[{ on := 12, ground := Ground.guard }], guard := some (12, true) } : Oper)) (v := ?_) rfl (by kernel_rfl) (by kernel_rfl) (by kernel_rfl) (fun _ _ _ h => h) (Or.inl ⟨by rfl, ?_⟩) hHeld ?_
              rotate_left
              · (intro w1 hSw; (try dsimp only at hSw); go_simp; all_goals with_reducible rfl)
              (try go_frame)
              refine wpAnyH_take (i := 14) (oi := ({ dst := some 35, op := Op.unOp UnOp.not 4 (Operand.tmp 34), type := 4, pos := "ref.go:75", after := #[{ on := 13, ground := Ground.data }, { on := 12, ground := Ground.guard }], guard := some (12, true) } : Oper)) (v := ?_) rfl (by kernel_rfl) (by kernel_rfl) (by kernel_rfl) (fun _ _ _ h => h) (Or.inl ⟨by rfl, ?_⟩) hHeld ?_
              rotate_left
              · (intro w1 hSw; (try dsimp only at hSw); go_simp; all_goals with_reducible rfl)
              (try go_frame)
              refine wpAnyH_take (i := 15) (oi := ({ dst := some 36, op := Op.move (Operand.tmp 35), type := 4, pos := "ref.go:75", after := #[{ on := 14, ground := Ground.data }, { on := 12, ground := Ground.chain }, { on := 12, ground := Ground.guard }], guard := some (12, true) } : Oper)) (v := ?_) rfl (by kernel_rfl) (by kernel_rfl) (by kernel_rfl) (fun _ _ _ h => h) (Or.inl ⟨by rfl, ?_⟩) hHeld ?_
              rotate_left
              · (intro w1 hSw; (try dsimp only at hSw); go_simp; all_goals with_reducible rfl)
              (try go_frame)
              refine wpAnyH_take (i := 16) (oi := ({ dst := some 37, op := Op.fieldAddr 76 (Operand.tmp 11) 1, type := 0, pos := "ref.go:75", after := #[{ on := 15, ground := Ground.guard }], guard := some (15, false) } : Oper)) (v := ?_) rfl (by kernel_rfl) (by kernel_rfl) (by kernel_rfl) (fun _ _ _ h => h) (Or.inl ⟨by rfl, ?_⟩) hHeld ?_
              rotate_left
              · (intro w1 hSw; (try dsimp only at hSw); go_simp; all_goals with_reducible rfl)
              (try go_frame)
              refine wpAnyH_take (i := 17) (oi := ({ dst := some 38, op := Op.load 3 (Operand.tmp 37), type := 3, pos := "ref.go:75", after := #[{ on := 16, ground := Ground.data }, { on := 15, ground := Ground.guard }], guard := some (15, false) } : Oper)) (v := ?_) rfl (by kernel_rfl) (by kernel_rfl) (by kernel_rfl) (fun _ _ _ h => h) (Or.inl ⟨by rfl, ?_⟩) hHeld ?_
              rotate_left
              · (intro w1 hSw; (try dsimp only at hSw); go_simp; all_goals with_reducible rfl)
              (try go_frame)
              refine wpAnyH_take (i := 18) (oi := ({ dst := some 39, op := Op.move (Operand.tmp 7), type := 3, pos := "ref.go:75", after := #[{ on := 15, ground := Ground.guard }], guard := some (15, false) } : Oper)) (v := ?_) rfl (by kernel_rfl) (by kernel_rfl) (by kernel_rfl) (fun _ _ _ h => h) (Or.inl ⟨by rfl, ?_⟩) hHeld ?_
              rotate_left
              · (intro w1 hSw; (try dsimp only at hSw); go_simp; all_goals with_reducible rfl)
              (try go_frame)
              refine wpAnyH_take (i := 19) (oi := ({ dst := some 40, op := Op.binOp BinOp.gtr 3 (Operand.tmp 38) (Operand.tmp 39) 3, type := 4, pos := "ref.go:75", after := #[{ on := 17, ground := Ground.data }, { on := 18, ground := Ground.data }, { on := 15, ground := Ground.guard }], guard := some (15, false) } : Oper)) (v := ?_) rfl (by kernel_rfl) (by kernel_rfl) (by kernel_rfl) (fun _ _ _ h => h) (Or.inl ⟨by rfl, ?_⟩) hHeld ?_
              rotate_left
              · (intro w1 hSw; (try dsimp only at hSw); go_simp; all_goals with_reducible rfl)
              (try go_frame)
              refine wpAnyH_take (i := 20) (oi := ({ dst := some 41, op := Op.pick (Operand.tmp 36) (Operand.const (Value.bool true)) (Operand.tmp 40), type := 4, pos := "ref.go:75", after := #[{ on := 15, ground := Ground.data }, { on := 19, ground := Ground.data }, { on := 12, ground := Ground.guard }], guard := some (12, true) } : Oper)) (v := ?_) rfl (by kernel_rfl) (by kernel_rfl) (by kernel_rfl) (fun _ _ _ h => h) (Or.inl ⟨by rfl, ?_⟩) hHeld ?_
              rotate_left
              · (intro w1 hSw; (try dsimp only at hSw); go_simp; all_goals with_reducible rfl)
              (try go_frame)
              refine wpAnyH_take (i := 21) (oi := ({ dst := some 42, op := Op.pick (Operand.tmp 33) (Operand.tmp 41) (Operand.const (Value.bool false)), type := 4, pos := "ref.go:75", after := #[{ on := 12, ground := Ground.data }, { on := 20, ground := Ground.data }], guard := none } : Oper)) (v := ?_) rfl (by kernel_rfl) (by kernel_rfl) (by kernel_rfl) (fun _ _ _ h => h) (Or.inl ⟨by rfl, ?_⟩) hHeld ?_
              rotate_left
              · (intro w1 hSw; (try dsimp only at hSw); go_simp; all_goals with_reducible rfl)
              (try go_frame)
              refine wpAnyH_take (i := 22) (oi := ({ dst := some 43, op := Op.move (Operand.tmp 42), type := 4, pos := "ref.go:75", after := #[{ on := 21, ground := Ground.data }, { on := 15, ground := Ground.chain }], guard := none } : Oper)) (v := ?_) rfl (by kernel_rfl) (by kernel_rfl) (by kernel_rfl) (fun _ _ _ h => h) (Or.inl ⟨by rfl, ?_⟩) hHeld ?_
              rotate_left
              · (intro w1 hSw; (try dsimp only at hSw); go_simp; all_goals with_reducible rfl)
              (try go_frame)
              refine wpAnyH_take (i := 23) (oi := ({ dst := some 44, op := Op.load 29 (Operand.tmp 3), type := 29, pos := "ref.go:75", after := #[{ on := 22, ground := Ground.guard }], guard := some (22, true) } : Oper)) (v := ?_) rfl (by kernel_rfl) (by kernel_rfl) (by kernel_rfl) (fun _ _ _ h => h) (Or.inl ⟨by rfl, ?_⟩) hHeld ?_
              rotate_left
              · (intro w1 hSw; (try dsimp only at hSw); go_simp; all_goals with_reducible rfl)
              (try go_frame)
              refine wpAnyH_take (i := 24) (oi := ({ dst := some 45, op := Op.move (Operand.tmp 0), type := 56, pos := "ref.go:75", after := #[{ on := 22, ground := Ground.guard }], guard := some (22, true) } : Oper)) (v := ?_) rfl (by kernel_rfl) (by kernel_rfl) (by kernel_rfl) (fun _ _ _ h => h) (Or.inl ⟨by rfl, ?_⟩) hHeld ?_
              rotate_left
              · (intro w1 hSw; (try dsimp only at hSw); go_simp; all_goals with_reducible rfl)
              (try go_frame)
              refine wpAnyH_take (i := 25) (oi := ({ dst := some 46, op := Op.nilCheck (Operand.tmp 45), type := 0, pos := "ref.go:75", after := #[{ on := 24, ground := Ground.data }, { on := 22, ground := Ground.guard }], guard := some (22, true) } : Oper)) (v := ?_) rfl (by kernel_rfl) (by kernel_rfl) (by kernel_rfl) (fun _ _ _ h => h) (Or.inl ⟨by rfl, ?_⟩) hHeld ?_
              rotate_left
              · (intro w1 hSw; (try dsimp only at hSw); go_simp; all_goals with_reducible rfl)
              (try go_frame)
              refine wpAnyH_take (i := 26) (oi := ({ dst := some 47, op := Op.fieldAddr 64 (Operand.tmp 46) 0, type := 0, pos := "ref.go:75", after := #[{ on := 25, ground := Ground.data }, { on := 22, ground := Ground.guard }], guard := some (22, true) } : Oper)) (v := ?_) rfl (by kernel_rfl) (by kernel_rfl) (by kernel_rfl) (fun _ _ _ h => h) (Or.inl ⟨by rfl, ?_⟩) hHeld ?_
              rotate_left
              · (intro w1 hSw; (try dsimp only at hSw); go_simp; all_goals with_reducible rfl)
              (try go_frame)
              refine wpAnyH_take (i := 27) (oi := ({ dst := some 48, op := Op.load 3 (Operand.tmp 47), type := 3, pos := "ref.go:75", after := #[{ on := 26, ground := Ground.data }, { on := 22, ground := Ground.guard }], guard := some (22, true) } : Oper)) (v := ?_) rfl (by kernel_rfl) (by kernel_rfl) (by kernel_rfl) (fun _ _ _ h => h) (Or.inl ⟨by rfl, ?_⟩) hHeld ?_
              rotate_left
              · (intro w1 hSw; (try dsimp only at hSw); go_simp; all_goals with_reducible rfl)
              (try go_frame)
              refine wpAnyH_ready (rs := [28]) (by kernel_rfl) (by simp) ?_
              refine AllReadyH.cons (o := ({ dst := some 49, op := Op.call { callee := Callee.value (Operand.func 74), args := #[Operand.tmp 44, Operand.tmp 48], argTypes := #[29, 3] }, type := 4, pos := "ref.go:75", after := #[{ on := 23, ground := Ground.data }, { on := 27, ground := Ground.data }, { on := 22, ground := Ground.chain }, { on := 22, ground := Ground.guard }], guard := some (22, true) } : Oper)) rfl (fun K hK => ?_) AllReadyH.nil
              go_simp
              go_wp2_with (go_at_call 74; (with_reducible refine (KF.out _).mono ?_); rintro en v3 ⟨rfl, hv3⟩)
              refine hK.out _ _ ?_ (fun hHeld2 => ?_)
              · exact HKS.out _ (below_call (And.left hHeld) (by assumption))
              clear hK K hHeld
              have hHeld := hHeld2
              clear hHeld2
              (try go_frame)
              refine wpAnyH_take (i := 29) (oi := ({ dst := some 50, op := Op.pick (Operand.tmp 43) (Operand.tmp 49) (Operand.const (Value.bool false)), type := 4, pos := "ref.go:75", after := #[{ on := 22, ground := Ground.data }, { on := 28, ground := Ground.data }], guard := none } : Oper)) (v := ?_) rfl (by kernel_rfl) (by kernel_rfl) (by kernel_rfl) (fun _ _ _ h => h) (Or.inl ⟨by rfl, ?_⟩) hHeld ?_
              rotate_left
              · (intro w1 hSw; (try dsimp only at hSw); go_simp; all_goals with_reducible rfl)
              (try go_frame)
              refine wpAnyH_done (by kernel_rfl) ?_ _
              refine NoPanic.normal ?_
              (try go_frame)
              obtain ⟨hBx, s0, s1, s2, s3, s4, s5, s6⟩ := hHeld
              have HBX := Lib.hid (HBW.out.trans (hBx.mono HBW.out.size))
              clear hBx
              go_wp2_with fail
              go_roundw
              case rel => exact ⟨k + 1, _, _, _, by omega, by simp, rfl, rfl, rfl, HNX.out.trans (stepE_no (.inr (.inr HFB.out))), HBX.out⟩
              case measure => simp [intOf]; omega
            · have hE := HE.out
              have hG := HG.out
              go_upto_region 5 with fail
              rw [← HW0.out]
              clear p0 p1 p2 p3
              refine wp_region_noPanic ?_
              refine wp_region_held_drew (S := fun w' => Below W0.heap.size W0 w' ∧ w'.cell? ⟨w.heap.size, 0, none⟩ = some (.int .u64 (hi u)) ∧ w'.cell? ⟨w.heap.size, 1, none⟩ = some (.int .u64 (lo u)) ∧ w'.cell? ⟨wr.heap.size, 0, none⟩ = some (.int .u64 (hi q.v)) ∧ w'.cell? ⟨wr.heap.size, 1, none⟩ = some (.int .u64 (lo q.v)) ∧ w'.cell? ⟨wr.heap.size, 2, none⟩ = some (.int .i64 q.n) ∧ w'.cell? ⟨wr.heap.size, 3, none⟩ = some (.int .i64 q.id) ∧ w'.cell? ⟨Y, 0, none⟩ = some (.int .i64 bits)) (by kernel_rfl) (HKS.out _ (Below.drew (Below.refl _ _))) (fun hHeld => ?_)
              refine wpAnyH_take (i := 0) (oi := ({ dst := some 21, op := Op.load 29 (Operand.tmp 3), type := 29, pos := "ref.go:75", after := #[], guard := none } : Oper)) (v := ?_) rfl (by kernel_rfl) (by kernel_rfl) (by kernel_rfl) (fun _ _ _ h => h) (Or.inl ⟨by rfl, ?_⟩) hHeld ?_
              rotate_left
              · (intro w1 hSw; (try dsimp only at hSw); go_simp; all_goals with_reducible rfl)
              (try go_frame)
              refine wpAnyH_take (i := 1) (oi := ({ dst := some 22, op := Op.move (Operand.tmp 0), type := 56, pos := "ref.go:75", after := #[], guard := none } : Oper)) (v := ?_) rfl (by kernel_rfl) (by kernel_rfl) (by kernel_rfl) (fun _ _ _ h => h) (Or.inl ⟨by rfl, ?_⟩) hHeld ?_
              rotate_left
              · (intro w1 hSw; (try dsimp only at hSw); go_simp; all_goals with_reducible rfl)
              (try go_frame)
              refine wpAnyH_take (i := 2) (oi := ({ dst := some 23, op := Op.nilCheck (Operand.tmp 22), type := 0, pos := "ref.go:75", after := #[{ on := 1, ground := Ground.data }], guard := none } : Oper)) (v := ?_) rfl (by kernel_rfl) (by kernel_rfl) (by kernel_rfl) (fun _ _ _ h => h) (Or.inl ⟨by rfl, ?_⟩) hHeld ?_
              rotate_left
              · (intro w1 hSw; (try dsimp only at hSw); go_simp; all_goals with_reducible rfl)
              (try go_frame)
              refine wpAnyH_take (i := 3) (oi := ({ dst := some 24, op := Op.fieldAddr 64 (Operand.tmp 23) 0, type := 0, pos := "ref.go:75", after := #[{ on := 2, ground := Ground.data }], guard := none } : Oper)) (v := ?_) rfl (by kernel_rfl) (by kernel_rfl) (by kernel_rfl) (fun _ _ _ h => h) (Or.inl ⟨by rfl, ?_⟩) hHeld ?_
              rotate_left
              · (intro w1 hSw; (try dsimp only at hSw); go_simp; all_goals with_reducible rfl)
              (try go_frame)
              refine wpAnyH_take (i := 4) (oi := ({ dst := some 25, op := Op.load 3 (Operand.tmp 24), type := 3, pos := "ref.go:75", after := #[{ on := 3, ground := Ground.data }], guard := none } : Oper)) (v := ?_) rfl (by kernel_rfl) (by kernel_rfl) (by kernel_rfl) (fun _ _ _ h => h) (Or.inl ⟨by rfl, ?_⟩) hHeld ?_
              rotate_left
              · (intro w1 hSw; (try dsimp only at hSw); go_simp; all_goals with_reducible rfl)
              (try go_frame)
              refine wpAnyH_take (i := 5) (oi := ({ dst := some 26, op := Op.fieldAddr 76 (Operand.tmp 11) 1, type := 0, pos := "ref.go:75", after := #[], guard := none } : Oper)) (v := ?_) rfl (by kernel_rfl) (by kernel_rfl) (by kernel_rfl) (fun _ _ _ h => h) (Or.inl ⟨by rfl, ?_⟩) hHeld ?_
              rotate_left
              · (intro w1 hSw; (try dsimp only at hSw); go_simp; all_goals with_reducible rfl)
              (try go_frame)
              refine wpAnyH_take (i := 6) (oi := ({ dst := some 27, op := Op.load 3 (Operand.tmp 26), type := 3, pos := "ref.go:75", after := #[{ on := 5, ground := Ground.data }], guard := none } : Oper)) (v := ?_) rfl (by kernel_rfl) (by kernel_rfl) (by kernel_rfl) (fun _ _ _ h => h) (Or.inl ⟨by rfl, ?_⟩) hHeld ?_
              rotate_left
              · (intro w1 hSw; (try dsimp only at hSw); go_simp; all_goals with_reducible rfl)
              (try go_frame)
              refine wpAnyH_take (i := 9) (oi := ({ dst := some 30, op := Op.fieldAddr 76 (Operand.tmp 11) 0, type := 0, pos := "ref.go:75", after := #[], guard := none } : Oper)) (v := ?_) rfl (by kernel_rfl) (by kernel_rfl) (by kernel_rfl) (fun _ _ _ h => h) (Or.inl ⟨by rfl, ?_⟩) hHeld ?_
              rotate_left
              · (intro w1 hSw; (try dsimp only at hSw); go_simp; all_goals with_reducible rfl)
              (try go_frame)
              refine wpAnyH_take (i := 10) (oi := ({ dst := some 31, op := Op.load 29 (Operand.tmp 30), type := 29, pos := "ref.go:75", after := #[{ on := 9, ground := Ground.data }], guard := none } : Oper)) (v := ?_) rfl (by kernel_rfl) (by kernel_rfl) (by kernel_rfl) (fun _ _ _ h => h) (Or.inl ⟨by rfl, ?_⟩) hHeld ?_
              rotate_left
              · (intro w1 hSw; (try dsimp only at hSw); go_simp; all_goals with_reducible rfl)
              (try go_frame)
              refine wpAnyH_ready (rs := [7]) (by kernel_rfl) (by simp) ?_
              refine AllReadyH.cons (o := ({ dst := some 28, op := Op.call { callee := Callee.value (Operand.func 61), args := #[Operand.tmp 25, Operand.tmp 27], argTypes := #[3, 3] }, type := 29, pos := "ref.go:75", after := #[{ on := 4, ground := Ground.data }, { on := 6, ground := Ground.data }], guard := none } : Oper)) rfl (fun K hK => ?_) AllReadyH.nil
              go_simp
              go_wp2_with (go_at_call 61; (with_reducible refine (KL.out _).mono ?_); rintro en v1 ⟨rfl, hv1⟩)
              refine hK.out _ _ ?_ (fun hHeld2 => ?_)
              · exact HKS.out _ (below_call (And.left hHeld) (by assumption))
              clear hK K hHeld
              have hHeld := hHeld2
              clear hHeld2
              (try go_frame)
              refine wpAnyH_ready (rs := [8]) (by kernel_rfl) (by simp) ?_
              refine AllReadyH.cons (o := ({ dst := some 29, op := Op.call { callee := Callee.value (Operand.func 60), args := #[Operand.tmp 21, Operand.tmp 28], argTypes := #[29, 29] }, type := 29, pos := "ref.go:75", after := #[{ on := 0, ground := Ground.data }, { on := 7, ground := Ground.data }, { on := 7, ground := Ground.chain }], guard := none } : Oper)) rfl (fun K hK => ?_) AllReadyH.nil
              go_simp
              go_wp2_with (go_at_call 60; (with_reducible refine (KA.out _).mono ?_); rintro en v2 ⟨rfl, hv2⟩)
              refine hK.out _ _ ?_ (fun hHeld2 => ?_)
              · exact HKS.out _ (below_call (And.left hHeld) (by assumption))
              clear hK K hHeld
              have hHeld := hHeld2
              clear hHeld2
              (try go_frame)
              refine wpAnyH_take (i := 11) (oi := ({ dst := some 32, op := Op.binOp BinOp.eql 29 (Operand.tmp 29) (Operand.tmp 31) 29, type := 4, pos := "ref.go:75", after := #[{ on := 8, ground := Ground.data }, { on := 10, ground := Ground.data }], guard := none } : Oper)) (v := ?_) rfl (by kernel_rfl) (by kernel_rfl) (by kernel_rfl) (fun _ _ _ h => h) (Or.inl ⟨by rfl, ?_⟩) hHeld ?_
              rotate_left
              · (intro w1 hSw; (try dsimp only at hSw); go_simp; all_goals with_reducible rfl)
              (try go_frame)
              refine wpAnyH_take (i := 12) (oi := ({ dst := some 33, op := Op.move (Operand.tmp 32), type := 4, pos := "ref.go:75", after := #[{ on := 11, ground := Ground.data }, { on := 8, ground := Ground.chain }], guard := none } : Oper)) (v := ?_) rfl (by kernel_rfl) (by kernel_rfl) (by kernel_rfl) (fun _ _ _ h => h) (Or.inl ⟨by rfl, ?_⟩) hHeld ?_
              rotate_left
              · (intro w1 hSw; (try dsimp only at hSw); go_simp; all_goals with_reducible rfl)
              (try go_frame)
              refine wpAnyH_take (i := 13) (oi := ({ dst := some 34, op := Op.move (Operand.tmp 9), type := 4, pos := "ref.go:75", after := #[{ on := 12, ground := Ground.guard }], guard := some (12, true) } : Oper)) (v := ?_) rfl (by kernel_rfl) (by kernel_rfl) (by kernel_rfl) (fun _ _ _ h => h) (Or.inl ⟨by rfl, ?_⟩) hHeld ?_
              rotate_left
              · (intro w1 hSw; (try dsimp only at hSw); go_simp; all_goals with_reducible rfl)
              (try go_frame)
              refine wpAnyH_take (i := 14) (oi := ({ dst := some 35, op := Op.unOp UnOp.not 4 (Operand.tmp 34), type := 4, pos := "ref.go:75", after := #[{ on := 13, ground := Ground.data }, { on := 12, ground := Ground.guard }], guard := some (12, true) } : Oper)) (v := ?_) rfl (by kernel_rfl) (by kernel_rfl) (by kernel_rfl) (fun _ _ _ h => h) (Or.inl ⟨by rfl, ?_⟩) hHeld ?_
              rotate_left
              · (intro w1 hSw; (try dsimp only at hSw); go_simp; all_goals with_reducible rfl)
              (try go_frame)
              refine wpAnyH_take (i := 15) (oi := ({ dst := some 36, op := Op.move (Operand.tmp 35), type := 4, pos := "ref.go:75", after := #[{ on := 14, ground := Ground.data }, { on := 12, ground := Ground.chain }, { on := 12, ground := Ground.guard }], guard := some (12, true) } : Oper)) (v := ?_) rfl (by kernel_rfl) (by kernel_rfl) (by kernel_rfl) (fun _ _ _ h => h) (Or.inl ⟨by rfl, ?_⟩) hHeld ?_
              rotate_left
              · (intro w1 hSw; (try dsimp only at hSw); go_simp; all_goals with_reducible rfl)
              (try go_frame)
              refine wpAnyH_take (i := 16) (oi := ({ dst := some 37, op := Op.fieldAddr 76 (Operand.tmp 11) 1, type := 0, pos := "ref.go:75", after := #[{ on := 15, ground := Ground.guard }], guard := some (15, false) } : Oper)) (v := ?_) rfl (by kernel_rfl) (by kernel_rfl) (by kernel_rfl) (fun _ _ _ h => h) (Or.inl ⟨by rfl, ?_⟩) hHeld ?_
              rotate_left
              · (intro w1 hSw; (try dsimp only at hSw); go_simp; all_goals with_reducible rfl)
              (try go_frame)
              refine wpAnyH_take (i := 17) (oi := ({ dst := some 38, op := Op.load 3 (Operand.tmp 37), type := 3, pos := "ref.go:75", after := #[{ on := 16, ground := Ground.data }, { on := 15, ground := Ground.guard }], guard := some (15, false) } : Oper)) (v := ?_) rfl (by kernel_rfl) (by kernel_rfl) (by kernel_rfl) (fun _ _ _ h => h) (Or.inl ⟨by rfl, ?_⟩) hHeld ?_
              rotate_left
              · (intro w1 hSw; (try dsimp only at hSw); go_simp; all_goals with_reducible rfl)
              (try go_frame)
              refine wpAnyH_take (i := 18) (oi := ({ dst := some 39, op := Op.move (Operand.tmp 7), type := 3, pos := "ref.go:75", after := #[{ on := 15, ground := Ground.guard }], guard := some (15, false) } : Oper)) (v := ?_) rfl (by kernel_rfl) (by kernel_rfl) (by kernel_rfl) (fun _ _ _ h => h) (Or.inl ⟨by rfl, ?_⟩) hHeld ?_
              rotate_left
              · (intro w1 hSw; (try dsimp only at hSw); go_simp; all_goals with_reducible rfl)
              (try go_frame)
              refine wpAnyH_take (i := 19) (oi := ({ dst := some 40, op := Op.binOp BinOp.gtr 3 (Operand.tmp 38) (Operand.tmp 39) 3, type := 4, pos := "ref.go:75", after := #[{ on := 17, ground := Ground.data }, { on := 18, ground := Ground.data }, { on := 15, ground := Ground.guard }], guard := some (15, false) } : Oper)) (v := ?_) rfl (by kernel_rfl) (by kernel_rfl) (by kernel_rfl) (fun _ _ _ h => h) (Or.inl ⟨by rfl, ?_⟩) hHeld ?_
              rotate_left
              · (intro w1 hSw; (try dsimp only at hSw); go_simp; all_goals with_reducible rfl)
              (try go_frame)
              refine wpAnyH_take (i := 20) (oi := ({ dst := some 41, op := Op.pick (Operand.tmp 36) (Operand.const (Value.bool true)) (Operand.tmp 40), type := 4, pos := "ref.go:75", after := #[{ on := 15, ground := Ground.data }, { on := 19, ground := Ground.data }, { on := 12, ground := Ground.guard }], guard := some (12, true) } : Oper)) (v := ?_) rfl (by kernel_rfl) (by kernel_rfl) (by kernel_rfl) (fun _ _ _ h => h) (Or.inl ⟨by rfl, ?_⟩) hHeld ?_
              rotate_left
              · (intro w1 hSw; (try dsimp only at hSw); go_simp; all_goals with_reducible rfl)
              (try go_frame)
              refine wpAnyH_take (i := 21) (oi := ({ dst := some 42, op := Op.pick (Operand.tmp 33) (Operand.tmp 41) (Operand.const (Value.bool false)), type := 4, pos := "ref.go:75", after := #[{ on := 12, ground := Ground.data }, { on := 20, ground := Ground.data }], guard := none } : Oper)) (v := ?_) rfl (by kernel_rfl) (by kernel_rfl) (by kernel_rfl) (fun _ _ _ h => h) (Or.inl ⟨by rfl, ?_⟩) hHeld ?_
              rotate_left
              · (intro w1 hSw; (try dsimp only at hSw); go_simp; all_goals with_reducible rfl)
              (try go_frame)
              refine wpAnyH_take (i := 22) (oi := ({ dst := some 43, op := Op.move (Operand.tmp 42), type := 4, pos := "ref.go:75", after := #[{ on := 21, ground := Ground.data }, { on := 15, ground := Ground.chain }], guard := none } : Oper)) (v := ?_) rfl (by kernel_rfl) (by kernel_rfl) (by kernel_rfl) (fun _ _ _ h => h) (Or.inl ⟨by rfl, ?_⟩) hHeld ?_
              rotate_left
              · (intro w1 hSw; (try dsimp only at hSw); go_simp; all_goals with_reducible rfl)
              (try go_frame)
              refine wpAnyH_take (i := 23) (oi := ({ dst := some 44, op := Op.load 29 (Operand.tmp 3), type := 29, pos := "ref.go:75", after := #[{ on := 22, ground := Ground.guard }], guard := some (22, true) } : Oper)) (v := ?_) rfl (by kernel_rfl) (by kernel_rfl) (by kernel_rfl) (fun _ _ _ h => h) (Or.inl ⟨by rfl, ?_⟩) hHeld ?_
              rotate_left
              · (intro w1 hSw; (try dsimp only at hSw); go_simp; all_goals with_reducible rfl)
              (try go_frame)
              refine wpAnyH_take (i := 24) (oi := ({ dst := some 45, op := Op.move (Operand.tmp 0), type := 56, pos := "ref.go:75", after := #[{ on := 22, ground := Ground.guard }], guard := some (22, true) } : Oper)) (v := ?_) rfl (by kernel_rfl) (by kernel_rfl) (by kernel_rfl) (fun _ _ _ h => h) (Or.inl ⟨by rfl, ?_⟩) hHeld ?_
              rotate_left
              · (intro w1 hSw; (try dsimp only at hSw); go_simp; all_goals with_reducible rfl)
              (try go_frame)
              refine wpAnyH_take (i := 25) (oi := ({ dst := some 46, op := Op.nilCheck (Operand.tmp 45), type := 0, pos := "ref.go:75", after := #[{ on := 24, ground := Ground.data }, { on := 22, ground := Ground.guard }], guard := some (22, true) } : Oper)) (v := ?_) rfl (by kernel_rfl) (by kernel_rfl) (by kernel_rfl) (fun _ _ _ h => h) (Or.inl ⟨by rfl, ?_⟩) hHeld ?_
              rotate_left
              · (intro w1 hSw; (try dsimp only at hSw); go_simp; all_goals with_reducible rfl)
              (try go_frame)
              refine wpAnyH_take (i := 26) (oi := ({ dst := some 47, op := Op.fieldAddr 64 (Operand.tmp 46) 0, type := 0, pos := "ref.go:75", after := #[{ on := 25, ground := Ground.data }, { on := 22, ground := Ground.guard }], guard := some (22, true) } : Oper)) (v := ?_) rfl (by kernel_rfl) (by kernel_rfl) (by kernel_rfl) (fun _ _ _ h => h) (Or.inl ⟨by rfl, ?_⟩) hHeld ?_
              rotate_left
              · (intro w1 hSw; (try dsimp only at hSw); go_simp; all_goals with_reducible rfl)
              (try go_frame)
              refine wpAnyH_take (i := 27) (oi := ({ dst := some 48, op := Op.load 3 (Operand.tmp 47), type := 3, pos := "ref.go:75", after := #[{ on := 26, ground := Ground.data }, { on := 22, ground := Ground.guard }], guard := some (22, true) } : Oper)) (v := ?_) rfl (by kernel_rfl) (by kernel_rfl) (by kernel_rfl) (fun _ _ _ h => h) (Or.inl ⟨by rfl, ?_⟩) hHeld ?_
              rotate_left
              · (intro w1 hSw; (try dsimp only at hSw); go_simp; all_goals with_reducible rfl)
              (try go_frame)
              refine wpAnyH_ready (rs := [28]) (by kernel_rfl) (by simp) ?_
              refine AllReadyH.cons (o := ({ dst := some 49, op := Op.call { callee := Callee.value (Operand.func 74), args := #[Operand.tmp 44, Operand.tmp 48], argTypes := #[29, 3] }, type := 4, pos := "ref.go:75", after := #[{ on := 23, ground := Ground.data }, { on := 27, ground := Ground.data }, { on := 22, ground := Ground.chain }, { on := 22, ground := Ground.guard }], guard := some (22, true) } : Oper)) rfl (fun K hK => ?_) AllReadyH.nil
              go_simp
              go_wp2_with (go_at_call 74; (with_reducible refine (KF.out _).mono ?_); rintro en v3 ⟨rfl, hv3⟩)
              refine hK.out _ _ ?_ (fun hHeld2 => ?_)
              · exact HKS.out _ (below_call (And.left hHeld) (by assumption))
              clear hK K hHeld
              have hHeld := hHeld2
              clear hHeld2
              (try go_frame)
              refine wpAnyH_take (i := 29) (oi := ({ dst := some 50, op := Op.pick (Operand.tmp 43) (Operand.tmp 49) (Operand.const (Value.bool false)), type := 4, pos := "ref.go:75", after := #[{ on := 22, ground := Ground.data }, { on := 28, ground := Ground.data }], guard := none } : Oper)) (v := ?_) rfl (by kernel_rfl) (by kernel_rfl) (by kernel_rfl) (fun _ _ _ h => h) (Or.inl ⟨by rfl, ?_⟩) hHeld ?_
              rotate_left
              · (intro w1 hSw; (try dsimp only at hSw); go_simp; all_goals with_reducible rfl)
              (try go_frame)
              refine wpAnyH_done (by kernel_rfl) ?_ _
              refine NoPanic.normal ?_
              (try go_frame)
              obtain ⟨hBx, s0, s1, s2, s3, s4, s5, s6⟩ := hHeld
              have HBX := Lib.hid (HBW.out.trans (hBx.mono HBW.out.size))
              clear hBx
              go_wp2_with fail
              go_quiet (fail)
              go_wp2_with fail
              go_roundw
              case rel => exact ⟨k + 1, _, _, _, by omega, by simp, rfl, rfl, rfl, HNX.out.trans (stepE_yes HCV.out (.inr HL.out) HFB.out), HBX.out.trans (below_dnU _ _ _)⟩
              case measure => simp [intOf]; omega
          · have hl1 : ¬ (an : Int) < (q.n : Int) := by omega
            have HL := Lib.hid hl
            have hl2 : decide ((an : Int) < (q.n : Int)) = false := decide_eq_false hl1
            have hl3 : q.n ≤ an := by omega
            have hl4 : decide (an < q.n) = false := decide_eq_false hl
            have hE := HE.out
            have hG := HG.out
            go_upto_region 5 with fail
            rw [← HW0.out]
            clear p0 p1 p2 p3
            refine wp_region_noPanic ?_
            refine wp_region_held_drew (S := fun w' => Below W0.heap.size W0 w' ∧ w'.cell? ⟨w.heap.size, 0, none⟩ = some (.int .u64 (hi u)) ∧ w'.cell? ⟨w.heap.size, 1, none⟩ = some (.int .u64 (lo u)) ∧ w'.cell? ⟨wr.heap.size, 0, none⟩ = some (.int .u64 (hi q.v)) ∧ w'.cell? ⟨wr.heap.size, 1, none⟩ = some (.int .u64 (lo q.v)) ∧ w'.cell? ⟨wr.heap.size, 2, none⟩ = some (.int .i64 q.n) ∧ w'.cell? ⟨wr.heap.size, 3, none⟩ = some (.int .i64 q.id) ∧ w'.cell? ⟨Y, 0, none⟩ = some (.int .i64 bits)) (by kernel_rfl) (HKS.out _ (Below.drew (Below.refl _ _))) (fun hHeld => ?_)
            refine wpAnyH_take (i := 0) (oi := ({ dst := some 21, op := Op.load 29 (Operand.tmp 3), type := 29, pos := "ref.go:75", after := #[], guard := none } : Oper)) (v := ?_) rfl (by kernel_rfl) (by kernel_rfl) (by kernel_rfl) (fun _ _ _ h => h) (Or.inl ⟨by rfl, ?_⟩) hHeld ?_
            rotate_left
            · (intro w1 hSw; (try dsimp only at hSw); go_simp; all_goals with_reducible rfl)
            (try go_frame)
            refine wpAnyH_take (i := 1) (oi := ({ dst := some 22, op := Op.move (Operand.tmp 0), type := 56, pos := "ref.go:75", after := #[], guard := none } : Oper)) (v := ?_) rfl (by kernel_rfl) (by kernel_rfl) (by kernel_rfl) (fun _ _ _ h => h) (Or.inl ⟨by rfl, ?_⟩) hHeld ?_
            rotate_left
            · (intro w1 hSw; (try dsimp only at hSw); go_simp; all_goals with_reducible rfl)
            (try go_frame)
            refine wpAnyH_take (i := 2) (oi := ({ dst := some 23, op := Op.nilCheck (Operand.tmp 22), type := 0, pos := "ref.go:75", after := #[{ on := 1, ground := Ground.data }], guard := none } : Oper)) (v := ?_) rfl (by kernel_rfl) (by kernel_rfl) (by kernel_rfl) (fun _ _ _ h => h) (Or.inl ⟨by rfl, ?_⟩) hHeld ?_
            rotate_left
            · (intro w1 hSw; (try dsimp only at hSw); go_simp; all_goals with_reducible rfl)
            (try go_frame)
            refine wpAnyH_take (i := 3) (oi := ({ dst := some 24, op := Op.fieldAddr 64 (Operand.tmp 23) 0, type := 0, pos := "ref.go:75", after := #[{ on := 2, ground := Ground.data }], guard := none } : Oper)) (v := ?_) rfl (by kernel_rfl) (by kernel_rfl) (by kernel_rfl) (fun _ _ _ h => h) (Or.inl ⟨by rfl, ?_⟩) hHeld ?_
            rotate_left
            · (intro w1 hSw; (try dsimp only at hSw); go_simp; all_goals with_reducible rfl)
            (try go_frame)
            refine wpAnyH_take (i := 4) (oi := ({ dst := some 25, op := Op.load 3 (Operand.tmp 24), type := 3, pos := "ref.go:75", after := #[{ on := 3, ground := Ground.data }], guard := none } : Oper)) (v := ?_) rfl (by kernel_rfl) (by kernel_rfl) (by kernel_rfl) (fun _ _ _ h => h) (Or.inl ⟨by rfl, ?_⟩) hHeld ?_
            rotate_left
            · (intro w1 hSw; (try dsimp only at hSw); go_simp; all_goals with_reducible rfl)
            (try go_frame)
            refine wpAnyH_take (i := 5) (oi := ({ dst := some 26, op := Op.fieldAddr 76 (Operand.tmp 11) 1, type := 0, pos := "ref.go:75", after := #[], guard := none } : Oper)) (v := ?_) rfl (by kernel_rfl) (by kernel_rfl) (by kernel_rfl) (fun _ _ _ h => h) (Or.inl ⟨by rfl, ?_⟩) hHeld ?_
            rotate_left
            · (intro w1 hSw; (try dsimp only at hSw); go_simp; all_goals with_reducible rfl)
            (try go_frame)
            refine wpAnyH_take (i := 6) (oi := ({ dst := some 27, op := Op.load 3 (Operand.tmp 26), type := 3, pos := "ref.go:75", after := #[{ on := 5, ground := Ground.data }], guard := none } : Oper)) (v := ?_) rfl (by kernel_rfl) (by kernel_rfl) (by kernel_rfl) (fun _ _ _ h => h) (Or.inl ⟨by rfl, ?_⟩) hHeld ?_
            rotate_left
            · (intro w1 hSw; (try dsimp only at hSw); go_simp; all_goals with_reducible rfl)
            (try go_frame)
            refine wpAnyH_take (i := 9) (oi := ({ dst := some 30, op := Op.fieldAddr 76 (Operand.tmp 11) 0, type := 0, pos := "ref.go:75", after := #[], guard := none } : Oper)) (v := ?_) rfl (by kernel_rfl) (by kernel_rfl) (by kernel_rfl) (fun _ _ _ h => h) (Or.inl ⟨by rfl, ?_⟩) hHeld ?_
            rotate_left
            · (intro w1 hSw; (try dsimp only at hSw); go_simp; all_goals with_reducible rfl)
            (try go_frame)
            refine wpAnyH_take (i := 10) (oi := ({ dst := some 31, op := Op.load 29 (Operand.tmp 30), type := 29, pos := "ref.go:75", after := #[{ on := 9, ground := Ground.data }], guard := none } : Oper)) (v := ?_) rfl (by kernel_rfl) (by kernel_rfl) (by kernel_rfl) (fun _ _ _ h => h) (Or.inl ⟨by rfl, ?_⟩) hHeld ?_
            rotate_left
            · (intro w1 hSw; (try dsimp only at hSw); go_simp; all_goals with_reducible rfl)
            (try go_frame)
            refine wpAnyH_ready (rs := [7]) (by kernel_rfl) (by simp) ?_
            refine AllReadyH.cons (o := ({ dst := some 28, op := Op.call { callee := Callee.value (Operand.func 61), args := #[Operand.tmp 25, Operand.tmp 27], argTypes := #[3, 3] }, type := 29, pos := "ref.go:75", after := #[{ on := 4, ground := Ground.data }, { on := 6, ground := Ground.data }], guard := none } : Oper)) rfl (fun K hK => ?_) AllReadyH.nil
            go_simp
            go_wp2_with (go_at_call 61; (with_reducible refine (KL.out _).mono ?_); rintro en v1 ⟨rfl, hv1⟩)
            refine hK.out _ _ ?_ (fun hHeld2 => ?_)
            · exact HKS.out _ (below_call (And.left hHeld) (by assumption))
            clear hK K hHeld
            have hHeld := hHeld2
            clear hHeld2
            (try go_frame)
            refine wpAnyH_ready (rs := [8]) (by kernel_rfl) (by simp) ?_
            refine AllReadyH.cons (o := ({ dst := some 29, op := Op.call { callee := Callee.value (Operand.func 60), args := #[Operand.tmp 21, Operand.tmp 28], argTypes := #[29, 29] }, type := 29, pos := "ref.go:75", after := #[{ on := 0, ground := Ground.data }, { on := 7, ground := Ground.data }, { on := 7, ground := Ground.chain }], guard := none } : Oper)) rfl (fun K hK => ?_) AllReadyH.nil
            go_simp
            go_wp2_with (go_at_call 60; (with_reducible refine (KA.out _).mono ?_); rintro en v2 ⟨rfl, hv2⟩)
            refine hK.out _ _ ?_ (fun hHeld2 => ?_)
            · exact HKS.out _ (below_call (And.left hHeld) (by assumption))
            clear hK K hHeld
            have hHeld := hHeld2
            clear hHeld2
            (try go_frame)
            refine wpAnyH_take (i := 11) (oi := ({ dst := some 32, op := Op.binOp BinOp.eql 29 (Operand.tmp 29) (Operand.tmp 31) 29, type := 4, pos := "ref.go:75", after := #[{ on := 8, ground := Ground.data }, { on := 10, ground := Ground.data }], guard := none } : Oper)) (v := ?_) rfl (by kernel_rfl) (by kernel_rfl) (by kernel_rfl) (fun _ _ _ h => h) (Or.inl ⟨by rfl, ?_⟩) hHeld ?_
            rotate_left
            · (intro w1 hSw; (try dsimp only at hSw); go_simp; all_goals with_reducible rfl)
            (try go_frame)
            refine wpAnyH_take (i := 12) (oi := ({ dst := some 33, op := Op.move (Operand.tmp 32), type := 4, pos := "ref.go:75", after := #[{ on := 11, ground := Ground.data }, { on := 8, ground := Ground.chain }], guard := none } : Oper)) (v := ?_) rfl (by kernel_rfl) (by kernel_rfl) (by kernel_rfl) (fun _ _ _ h => h) (Or.inl ⟨by rfl, ?_⟩) hHeld ?_
            rotate_left
            · (intro w1 hSw; (try dsimp only at hSw); go_simp; all_goals with_reducible rfl)
            (try go_frame)
            refine wpAnyH_take (i := 13) (oi := ({ dst := some 34, op := Op.move (Operand.tmp 9), type := 4, pos := "ref.go:75", after := #[{ on := 12, ground := Ground.guard }], guard := some (12, true) } : Oper)) (v := ?_) rfl (by kernel_rfl) (by kernel_rfl) (by kernel_rfl) (fun _ _ _ h => h) (Or.inl ⟨by rfl, ?_⟩) hHeld ?_
            rotate_left
            · (intro w1 hSw; (try dsimp only at hSw); go_simp; all_goals with_reducible rfl)
            (try go_frame)
            refine wpAnyH_take (i := 14) (oi := ({ dst := some 35, op := Op.unOp UnOp.not 4 (Operand.tmp 34), type := 4, pos := "ref.go:75", after := #[{ on := 13, ground := Ground.data }, { on := 12, ground := Ground.guard }], guard := some (12, true) } : Oper)) (v := ?_) rfl (by kernel_rfl) (by kernel_rfl) (by kernel_rfl) (fun _ _ _ h => h) (Or.inl ⟨by rfl, ?_⟩) hHeld ?_
            rotate_left
            · (intro w1 hSw; (try dsimp only at hSw); go_simp; all_goals with_reducible rfl)
            (try go_frame)
            refine wpAnyH_take (i := 15) (oi := ({ dst := some 36, op := Op.move (Operand.tmp 35), type := 4, pos := "ref.go:75", after := #[{ on := 14, ground := Ground.data }, { on := 12, ground := Ground.chain }, { on := 12, ground := Ground.guard }], guard := some (12, true) } : Oper)) (v := ?_) rfl (by kernel_rfl) (by kernel_rfl) (by kernel_rfl) (fun _ _ _ h => h) (Or.inl ⟨by rfl, ?_⟩) hHeld ?_
            rotate_left
            · (intro w1 hSw; (try dsimp only at hSw); go_simp; all_goals with_reducible rfl)
            (try go_frame)
            refine wpAnyH_take (i := 16) (oi := ({ dst := some 37, op := Op.fieldAddr 76 (Operand.tmp 11) 1, type := 0, pos := "ref.go:75", after := #[{ on := 15, ground := Ground.guard }], guard := some (15, false) } : Oper)) (v := ?_) rfl (by kernel_rfl) (by kernel_rfl) (by kernel_rfl) (fun _ _ _ h => h) (Or.inl ⟨by rfl, ?_⟩) hHeld ?_
            rotate_left
            · (intro w1 hSw; (try dsimp only at hSw); go_simp; all_goals with_reducible rfl)
            (try go_frame)
            refine wpAnyH_take (i := 17) (oi := ({ dst := some 38, op := Op.load 3 (Operand.tmp 37), type := 3, pos := "ref.go:75", after := #[{ on := 16, ground := Ground.data }, { on := 15, ground := Ground.guard }], guard := some (15, false) } : Oper)) (v := ?_) rfl (by kernel_rfl) (by kernel_rfl) (by kernel_rfl) (fun _ _ _ h => h) (Or.inl ⟨by rfl, ?_⟩) hHeld ?_
            rotate_left
            · (intro w1 hSw; (try dsimp only at hSw); go_simp; all_goals with_reducible rfl)
            (try go_frame)
            refine wpAnyH_take (i := 18) (oi := ({ dst := some 39, op := Op.move (Operand.tmp 7), type := 3, pos := "ref.go:75", after := #[{ on := 15, ground := Ground.guard }], guard := some (15, false) } : Oper)) (v := ?_) rfl (by kernel_rfl) (by kernel_rfl) (by kernel_rfl) (fun _ _ _ h => h) (Or.inl ⟨by rfl, ?_⟩) hHeld ?_
            rotate_left
            · (intro w1 hSw; (try dsimp only at hSw); go_simp; all_goals with_reducible rfl)
            (try go_frame)
            refine wpAnyH_take (i := 19) (oi := ({ dst := some 40, op := Op.binOp BinOp.gtr 3 (Operand.tmp 38) (Operand.tmp 39) 3, type := 4, pos := "ref.go:75", after := #[{ on := 17, ground := Ground.data }, { on := 18, ground := Ground.data }, { on := 15, ground := Ground.guard }], guard := some (15, false) } : Oper)) (v := ?_) rfl (by kernel_rfl) (by kernel_rfl) (by kernel_rfl) (fun _ _ _ h => h) (Or.inl ⟨by rfl, ?_⟩) hHeld ?_
            rotate_left
            · (intro w1 hSw; (try dsimp only at hSw); go_simp; all_goals with_reducible rfl)
            (try go_frame)
            refine wpAnyH_take (i := 20) (oi := ({ dst := some 41, op := Op.pick (Operand.tmp 36) (Operand.const (Value.bool true)) (Operand.tmp 40), type := 4, pos := "ref.go:75", after := #[{ on := 15, ground := Ground.data }, { on := 19, ground := Ground.data }, { on := 12, ground := Ground.guard }], guard := some (12, true) } : Oper)) (v := ?_) rfl (by kernel_rfl) (by kernel_rfl) (by kernel_rfl) (fun _ _ _ h => h) (Or.inl ⟨by rfl, ?_⟩) hHeld ?_
            rotate_left
            · (intro w1 hSw; (try dsimp only at hSw); go_simp; all_goals with_reducible rfl)
            (try go_frame)
            refine wpAnyH_take (i := 21) (oi := ({ dst := some 42, op := Op.pick (Operand.tmp 33) (Operand.tmp 41) (Operand.const (Value.bool false)), type := 4, pos := "ref.go:75", after := #[{ on := 12, ground := Ground.data }, { on := 20, ground := Ground.data }], guard := none } : Oper)) (v := ?_) rfl (by kernel_rfl) (by kernel_rfl) (by kernel_rfl) (fun _ _ _ h => h) (Or.inl ⟨by rfl, ?_⟩) hHeld ?_
            rotate_left
            · (intro w1 hSw; (try dsimp only at hSw); go_simp; all_goals with_reducible rfl)
            (try go_frame)
            refine wpAnyH_take (i := 22) (oi := ({ dst := some 43, op := Op.move (Operand.tmp 42), type := 4, pos := "ref.go:75", after := #[{ on := 21, ground := Ground.data }, { on := 15, ground := Ground.chain }], guard := none } : Oper)) (v := ?_) rfl (by kernel_rfl) (by kernel_rfl) (by kernel_rfl) (fun _ _ _ h => h) (Or.inl ⟨by rfl, ?_⟩) hHeld ?_
            rotate_left
            · (intro w1 hSw; (try dsimp only at hSw); go_simp; all_goals with_reducible rfl)
            (try go_frame)
            refine wpAnyH_take (i := 23) (oi := ({ dst := some 44, op := Op.load 29 (Operand.tmp 3), type := 29, pos := "ref.go:75", after := #[{ on := 22, ground := Ground.guard }], guard := some (22, true) } : Oper)) (v := undef) rfl (by kernel_rfl) (by kernel_rfl) (by kernel_rfl) (fun _ _ _ h => h) (Or.inr ⟨by kernel_rfl, rfl⟩) hHeld ?_
            (try go_frame)
            refine wpAnyH_take (i := 24) (oi := ({ dst := some 45, op := Op.move (Operand.tmp 0), type := 56, pos := "ref.go:75", after := #[{ on := 22, ground := Ground.guard }], guard := some (22, true) } : Oper)) (v := undef) rfl (by kernel_rfl) (by kernel_rfl) (by kernel_rfl) (fun _ _ _ h => h) (Or.inr ⟨by kernel_rfl, rfl⟩) hHeld ?_
            (try go_frame)
            refine wpAnyH_take (i := 25) (oi := ({ dst := some 46, op := Op.nilCheck (Operand.tmp 45), type := 0, pos := "ref.go:75", after := #[{ on := 24, ground := Ground.data }, { on := 22, ground := Ground.guard }], guard := some (22, true) } : Oper)) (v := undef) rfl (by kernel_rfl) (by kernel_rfl) (by kernel_rfl) (fun _ _ _ h => h) (Or.inr ⟨by kernel_rfl, rfl⟩) hHeld ?_
            (try go_frame)
            refine wpAnyH_take (i := 26) (oi := ({ dst := some 47, op := Op.fieldAddr 64 (Operand.tmp 46) 0, type := 0, pos := "ref.go:75", after := #[{ on := 25, ground := Ground.data }, { on := 22, ground := Ground.guard }], guard := some (22, true) } : Oper)) (v := undef) rfl (by kernel_rfl) (by kernel_rfl) (by kernel_rfl) (fun _ _ _ h => h) (Or.inr ⟨by kernel_rfl, rfl⟩) hHeld ?_
            (try go_frame)
            refine wpAnyH_take (i := 27) (oi := ({ dst := some 48, op := Op.load 3 (Operand.tmp 47), type := 3, pos := "ref.go:75", after := #[{ on := 26, ground := Ground.data }, { on := 22, ground := Ground.guard }], guard := some (22, true) } : Oper)) (v := undef) rfl (by kernel_rfl) (by kernel_rfl) (by kernel_rfl) (fun _ _ _ h => h) (Or.inr ⟨by kernel_rfl, rfl⟩) hHeld ?_
            (try go_frame)
            refine wpAnyH_take (i := 28) (oi := ({ dst := some 49, op := Op.call { callee := Callee.value (Operand.func 74), args := #[Operand.tmp 44, Operand.tmp 48], argTypes := #[29, 3] }, type := 4, pos := "ref.go:75", after := #[{ on := 23, ground := Ground.data }, { on := 27, ground := Ground.data }, { on := 22, ground := Ground.chain }, { on := 22, ground := Ground.guard }], guard := some (22, true) } : Oper)) (v := undef) rfl (by kernel_rfl) (by kernel_rfl) (by kernel_rfl) (fun _ _ _ h => h) (Or.inr ⟨by kernel_rfl, rfl⟩) hHeld ?_
            (try go_frame)
            refine wpAnyH_take (i := 29) (oi := ({ dst := some 50, op := Op.pick (Operand.tmp 43) (Operand.tmp 49) (Operand.const (Value.bool false)), type := 4, pos := "ref.go:75", after := #[{ on := 22, ground := Ground.data }, { on := 28, ground := Ground.data }], guard := none } : Oper)) (v := ?_) rfl (by kernel_rfl) (by kernel_rfl) (by kernel_rfl) (fun _ _ _ h => h) (Or.inl ⟨by rfl, ?_⟩) hHeld ?_
            rotate_left
            · (intro w1 hSw; (try dsimp only at hSw); go_simp; all_goals with_reducible rfl)
            (try go_frame)
            refine wpAnyH_done (by kernel_rfl) ?_ _
            refine NoPanic.normal ?_
            (try go_frame)
            obtain ⟨hBx, s0, s1, s2, s3, s4, s5, s6⟩ := hHeld
            have HBX := Lib.hid (HBW.out.trans (hBx.mono HBW.out.size))
            clear hBx
            go_wp2_with fail
            go_roundw
            case rel => exact ⟨k + 1, _, _, _, by omega, by simp, rfl, rfl, rfl, HNX.out.trans (stepE_no (.inr (.inl (by rintro (h | h); cases h; exact HL.out h)))), HBX.out⟩
            case measure => simp [intOf]; omega
    · have k1 : ¬ (k : Int) < (n0 : Int) := by omega
      obtain rfl : n0 = k := by omega
      have HA2 : Hid (lngE bits u L = (an, ai, ab)) := Lib.hid (by have := HACC.out; rw [List.take_of_length_le (by rw [HR.out.len]; omega)] at this; exact this)
      go_wp2_with fail
      refine bodyPost_ret (v := .tuple #[.int .i64 (an : Int), .int .i64 ai, .bool ab]) (by simp [results, Try.results35, go_sem]) rfl ?_
      exact ⟨by rw [HA2.out], HB0.out.trans (HB.out.mono HB0.out.size)⟩
end Go.Proofs.Ytmlocfojmncghaa
