/- Making a schema out of choices: actions, its region. -/
import Derived.Test.YtldgjahpmlafgaaGreatSActP
namespace Go.Proofs.YtldgjahpmlafgaaGreat
open Go.RowKit

set_option maxRecDepth 100000 in
set_option maxHeartbeats 8000000 in
theorem actions_any {K D p : Nat} {l : List Nat} {w : World} (h : CoAt K D l p w) : Calls Tryz.prog 69 #[.pointer (some ⟨K, 0, none⟩)] w fun e w' => ∃ v, e = .returned v ∧ ActsAt K w.heap.size w' v ∧ w.grownBy w' (some K) ∧ ∃ p, CoAt K D l p w' := by
  have HC := Lib.hid h
  go_enter Tryz.func69, Tryz.ntmps69
  go_wp2_with fail
  refine wp_region_any (by kernel_rfl) ?_
  refine wpAny_inv (AInv K D w.heap.size l w) ?_ ?_ _ _ _ _ (Nat.le_trans (List.length_filter_le _ _) (by simp)) ?_
  · intro listed a w1 i hI hi
    obtain ⟨hlt, hun⟩ := ready_sub hi
    have hlt2 : i < 42 := hlt
    clear hun hlt
    match i, hlt2 with
    | 0, _ =>
      refine wpOp_step rfl (fun K' hK => ?_)
      go_simp
      refine hK _ _ ?_
      exact hI.step 0 (by decide) (World.grownBy.refl _ _) hI.co (show FA0 K w.heap.size w1 _ from rfl) 6 rfl
    | 1, _ =>
      refine wpOp_step rfl (fun K' hK => ?_)
      go_simp
      refine hK _ _ ?_
      exact hI.step 1 (by decide) (World.grownBy.refl _ _) hI.co (show FA1 K w.heap.size w1 _ from rfl) 7 rfl
    | 2, _ =>
      have g7 : FA1 K w.heap.size w1 (a.tmps[7]?.getD undef) := hI.f 1 (by decide) (ready_dep hi rfl (e := ⟨1, .data⟩) (by simp) rfl)
      have s7 : a.tmps[7]?.getD undef = .agg #[.int .i64 6, .int .i64 0, .int .i64 0, .int .i64 0, .int .u64 0, .int .u64 0] := g7
      refine wpOp_step rfl (fun K' hK => ?_)
      obtain ⟨pc, hc⟩ := hI.co
      go_simp
      refine hK _ _ ?_
      exact hI.step 2 (by decide) (grown_alloc w1 _ _) ⟨pc, hc.kept (grown_alloc w1 _ none) (by simp) (by simp)⟩ (show FA2 K w.heap.size _ _ from SlOf.new hc.lt hI.grown.size _ _ _) 8 rfl
    | 3, _ =>
      have g8 : FA2 K w.heap.size w1 (a.tmps[8]?.getD undef) := hI.f 2 (by decide) (ready_dep hi rfl (e := ⟨2, .data⟩) (by simp) rfl)
      have g8x := g8
      obtain ⟨L8, s8, _⟩ := g8x
      have s8 : a.tmps[8]?.getD undef = .slice (some ⟨L8, 0, none⟩) 1 1 := s8
      refine wpOp_step rfl (fun K' hK => ?_)
      go_simp
      refine hK _ _ ?_
      exact hI.step 3 (by decide) (World.grownBy.refl _ _) hI.co (show FA3 K w.heap.size w1 _ from ⟨_, (s8 ▸ g8), rfl⟩) 9 rfl
    | 4, _ =>
      refine wpOp_step rfl (fun K' hK => ?_)
      go_simp
      refine hK _ _ ?_
      exact hI.step 4 (by decide) (World.grownBy.refl _ _) hI.co (show FA4 K w.heap.size w1 _ from rfl) 10 rfl
    | 5, _ =>
      have g10 : FA4 K w.heap.size w1 (a.tmps[10]?.getD undef) := hI.f 4 (by decide) (ready_dep hi rfl (e := ⟨4, .data⟩) (by simp) rfl)
      have s10 : a.tmps[10]?.getD undef = .agg #[.string ⟨#[112, 111, 114, 116]⟩, .int .i64 16] := g10
      refine wpOp_step rfl (fun K' hK => ?_)
      obtain ⟨pc, hc⟩ := hI.co
      go_simp
      refine hK _ _ ?_
      exact hI.step 5 (by decide) (grown_alloc w1 _ _) ⟨pc, hc.kept (grown_alloc w1 _ none) (by simp) (by simp)⟩ (show FA5 K w.heap.size _ _ from SlOf.new hc.lt hI.grown.size _ _ _) 11 rfl
    | 6, _ =>
      have t3 := hI.t3
      have c0 : w1.cell? ⟨w.heap.size, 0, none⟩ = some (.int .i64 3) := hI.box.c 0 (by simp)
      have c1 : w1.cell? ⟨w.heap.size, 1, none⟩ = some (.int .i64 0) := hI.box.c 1 (by simp)
      have c2 : w1.cell? ⟨w.heap.size, 2, none⟩ = some (.int .u64 0) := hI.box.c 2 (by simp)
      have c3 : w1.cell? ⟨w.heap.size, 3, none⟩ = some (.int .u64 0) := hI.box.c 3 (by simp)
      refine wpOp_step rfl (fun K' hK => ?_)
      go_simp
      refine hK _ _ ?_
      exact hI.step 6 (by decide) (World.grownBy.refl _ _) hI.co (show FA6 K w.heap.size w1 _ from rfl) 12 rfl
    | 7, _ =>
      have g12 : FA6 K w.heap.size w1 (a.tmps[12]?.getD undef) := hI.f 6 (by decide) (ready_dep hi rfl (e := ⟨6, .data⟩) (by simp) rfl)
      have s12 : a.tmps[12]?.getD undef = .agg #[.int .i64 3, .int .i64 0, .int .u64 0, .int .u64 0] := g12
      refine wpOp_step rfl (fun K' hK => ?_)
      go_simp
      refine hK _ _ ?_
      exact hI.step 7 (by decide) (World.grownBy.refl _ _) hI.co (show FA7 K w.heap.size w1 _ from rfl) 13 rfl
    | 8, _ =>
      have g13 : FA7 K w.heap.size w1 (a.tmps[13]?.getD undef) := hI.f 7 (by decide) (ready_dep hi rfl (e := ⟨7, .data⟩) (by simp) rfl)
      have s13 : a.tmps[13]?.getD undef = .agg #[.int .i64 7, .int .i64 0, .int .i64 3, .int .i64 0, .int .u64 0, .int .u64 0] := g13
      refine wpOp_step rfl (fun K' hK => ?_)
      obtain ⟨pc, hc⟩ := hI.co
      go_simp
      refine hK _ _ ?_
      exact hI.step 8 (by decide) (grown_alloc w1 _ _) ⟨pc, hc.kept (grown_alloc w1 _ none) (by simp) (by simp)⟩ (show FA8 K w.heap.size _ _ from SlOf.new hc.lt hI.grown.size _ _ _) 14 rfl
    | 9, _ =>
      have g11 : FA5 K w.heap.size w1 (a.tmps[11]?.getD undef) := hI.f 5 (by decide) (ready_dep hi rfl (e := ⟨5, .data⟩) (by simp) rfl)
      have g11x := g11
      obtain ⟨L11, s11, _⟩ := g11x
      have s11 : a.tmps[11]?.getD undef = .slice (some ⟨L11, 0, none⟩) 1 1 := s11
      have g14 : FA8 K w.heap.size w1 (a.tmps[14]?.getD undef) := hI.f 8 (by decide) (ready_dep hi rfl (e := ⟨8, .data⟩) (by simp) rfl)
      have g14x := g14
      obtain ⟨L14, s14, _⟩ := g14x
      have s14 : a.tmps[14]?.getD undef = .slice (some ⟨L14, 0, none⟩) 1 1 := s14
      refine wpOp_step rfl (fun K' hK => ?_)
      go_simp
      refine hK _ _ ?_
      exact hI.step 9 (by decide) (World.grownBy.refl _ _) hI.co (show FA9 K w.heap.size w1 _ from ⟨_, _, (s11 ▸ g11), (s14 ▸ g14), rfl⟩) 15 rfl
    | 10, _ =>
      refine wpOp_step rfl (fun K' hK => ?_)
      go_simp
      refine hK _ _ ?_
      exact hI.step 10 (by decide) (World.grownBy.refl _ _) hI.co (show FA10 K w.heap.size w1 _ from rfl) 16 rfl
    | 11, _ =>
      have g16 : FA10 K w.heap.size w1 (a.tmps[16]?.getD undef) := hI.f 10 (by decide) (ready_dep hi rfl (e := ⟨10, .data⟩) (by simp) rfl)
      have s16 : a.tmps[16]?.getD undef = .agg #[.string ⟨#[120]⟩, .int .i64 4] := g16
      refine wpOp_step rfl (fun K' hK => ?_)
      obtain ⟨pc, hc⟩ := hI.co
      go_simp
      refine hK _ _ ?_
      exact hI.step 11 (by decide) (grown_alloc w1 _ _) ⟨pc, hc.kept (grown_alloc w1 _ none) (by simp) (by simp)⟩ (show FA11 K w.heap.size _ _ from SlOf.new hc.lt hI.grown.size _ _ _) 17 rfl
    | 12, _ =>
      have t3 := hI.t3
      have c0 : w1.cell? ⟨w.heap.size, 0, none⟩ = some (.int .i64 3) := hI.box.c 0 (by simp)
      have c1 : w1.cell? ⟨w.heap.size, 1, none⟩ = some (.int .i64 0) := hI.box.c 1 (by simp)
      have c2 : w1.cell? ⟨w.heap.size, 2, none⟩ = some (.int .u64 0) := hI.box.c 2 (by simp)
      have c3 : w1.cell? ⟨w.heap.size, 3, none⟩ = some (.int .u64 0) := hI.box.c 3 (by simp)
      refine wpOp_step rfl (fun K' hK => ?_)
      go_simp
      refine hK _ _ ?_
      exact hI.step 12 (by decide) (World.grownBy.refl _ _) hI.co (show FA12 K w.heap.size w1 _ from rfl) 18 rfl
    | 13, _ =>
      have g18 : FA12 K w.heap.size w1 (a.tmps[18]?.getD undef) := hI.f 12 (by decide) (ready_dep hi rfl (e := ⟨12, .data⟩) (by simp) rfl)
      have s18 : a.tmps[18]?.getD undef = .agg #[.int .i64 3, .int .i64 0, .int .u64 0, .int .u64 0] := g18
      refine wpOp_step rfl (fun K' hK => ?_)
      go_simp
      refine hK _ _ ?_
      exact hI.step 13 (by decide) (World.grownBy.refl _ _) hI.co (show FA13 K w.heap.size w1 _ from rfl) 19 rfl
    | 14, _ =>
      refine wpOp_step rfl (fun K' hK => ?_)
      go_simp
      refine hK _ _ ?_
      exact hI.step 14 (by decide) (World.grownBy.refl _ _) hI.co (show FA14 K w.heap.size w1 _ from rfl) 20 rfl
    | 15, _ =>
      have g20 : FA14 K w.heap.size w1 (a.tmps[20]?.getD undef) := hI.f 14 (by decide) (ready_dep hi rfl (e := ⟨14, .data⟩) (by simp) rfl)
      have s20 : a.tmps[20]?.getD undef = .agg #[.int .i64 2, .int .i64 5, .int .u64 0, .int .u64 0] := g20
      refine wpOp_step rfl (fun K' hK => ?_)
      go_simp
      refine hK _ _ ?_
      exact hI.step 15 (by decide) (World.grownBy.refl _ _) hI.co (show FA15 K w.heap.size w1 _ from rfl) 21 rfl
    | 16, _ =>
      have g19 : FA13 K w.heap.size w1 (a.tmps[19]?.getD undef) := hI.f 13 (by decide) (ready_dep hi rfl (e := ⟨13, .data⟩) (by simp) rfl)
      have s19 : a.tmps[19]?.getD undef = .agg #[.int .i64 1, .int .i64 5, .int .i64 3, .int .i64 0, .int .u64 0, .int .u64 0] := g19
      have g21 : FA15 K w.heap.size w1 (a.tmps[21]?.getD undef) := hI.f 15 (by decide) (ready_dep hi rfl (e := ⟨15, .data⟩) (by simp) rfl)
      have s21 : a.tmps[21]?.getD undef = .agg #[.int .i64 2, .int .i64 3, .int .i64 2, .int .i64 5, .int .u64 0, .int .u64 0] := g21
      refine wpOp_step rfl (fun K' hK => ?_)
      obtain ⟨pc, hc⟩ := hI.co
      go_simp
      refine hK _ _ ?_
      exact hI.step 16 (by decide) (grown_alloc w1 _ _) ⟨pc, hc.kept (grown_alloc w1 _ none) (by simp) (by simp)⟩ (show FA16 K w.heap.size _ _ from SlOf.new hc.lt hI.grown.size _ _ _) 22 rfl
    | 17, _ =>
      have g17 : FA11 K w.heap.size w1 (a.tmps[17]?.getD undef) := hI.f 11 (by decide) (ready_dep hi rfl (e := ⟨11, .data⟩) (by simp) rfl)
      have g17x := g17
      obtain ⟨L17, s17, _⟩ := g17x
      have s17 : a.tmps[17]?.getD undef = .slice (some ⟨L17, 0, none⟩) 1 1 := s17
      have g22 : FA16 K w.heap.size w1 (a.tmps[22]?.getD undef) := hI.f 16 (by decide) (ready_dep hi rfl (e := ⟨16, .data⟩) (by simp) rfl)
      have g22x := g22
      obtain ⟨L22, s22, _⟩ := g22x
      have s22 : a.tmps[22]?.getD undef = .slice (some ⟨L22, 0, none⟩) 2 2 := s22
      refine wpOp_step rfl (fun K' hK => ?_)
      go_simp
      refine hK _ _ ?_
      exact hI.step 17 (by decide) (World.grownBy.refl _ _) hI.co (show FA17 K w.heap.size w1 _ from ⟨_, _, (s17 ▸ g17), (s22 ▸ g22), rfl⟩) 23 rfl
    | 18, _ =>
      refine wpOp_step rfl (fun K' hK => ?_)
      go_simp
      refine hK _ _ ?_
      exact hI.step 18 (by decide) (World.grownBy.refl _ _) hI.co (show FA18 K w.heap.size w1 _ from rfl) 24 rfl
    | 19, _ =>
      refine wpOp_step rfl (fun K' hK => ?_)
      go_simp
      refine hK _ _ ?_
      exact hI.step 19 (by decide) (World.grownBy.refl _ _) hI.co (show FA19 K w.heap.size w1 _ from rfl) 25 rfl
    | 20, _ =>
      have g24 : FA18 K w.heap.size w1 (a.tmps[24]?.getD undef) := hI.f 18 (by decide) (ready_dep hi rfl (e := ⟨18, .data⟩) (by simp) rfl)
      have s24 : a.tmps[24]?.getD undef = .agg #[.string ⟨#[120]⟩, .int .i64 4] := g24
      have g25 : FA19 K w.heap.size w1 (a.tmps[25]?.getD undef) := hI.f 19 (by decide) (ready_dep hi rfl (e := ⟨19, .data⟩) (by simp) rfl)
      have s25 : a.tmps[25]?.getD undef = .agg #[.string ⟨#[121]⟩, .int .i64 12] := g25
      refine wpOp_step rfl (fun K' hK => ?_)
      obtain ⟨pc, hc⟩ := hI.co
      go_simp
      refine hK _ _ ?_
      exact hI.step 20 (by decide) (grown_alloc w1 _ _) ⟨pc, hc.kept (grown_alloc w1 _ none) (by simp) (by simp)⟩ (show FA20 K w.heap.size _ _ from SlOf.new hc.lt hI.grown.size _ _ _) 26 rfl
    | 21, _ =>
      refine wpOp_step rfl (fun K' hK => ?_)
      go_simp
      refine hK _ _ ?_
      exact hI.step 21 (by decide) (World.grownBy.refl _ _) hI.co (show FA21 K w.heap.size w1 _ from rfl) 27 rfl
    | 22, _ =>
      have t3 := hI.t3
      have c0 : w1.cell? ⟨w.heap.size, 0, none⟩ = some (.int .i64 3) := hI.box.c 0 (by simp)
      have c1 : w1.cell? ⟨w.heap.size, 1, none⟩ = some (.int .i64 0) := hI.box.c 1 (by simp)
      have c2 : w1.cell? ⟨w.heap.size, 2, none⟩ = some (.int .u64 0) := hI.box.c 2 (by simp)
      have c3 : w1.cell? ⟨w.heap.size, 3, none⟩ = some (.int .u64 0) := hI.box.c 3 (by simp)
      refine wpOp_step rfl (fun K' hK => ?_)
      go_simp
      refine hK _ _ ?_
      exact hI.step 22 (by decide) (World.grownBy.refl _ _) hI.co (show FA22 K w.heap.size w1 _ from rfl) 28 rfl
    | 23, _ =>
      have g28 : FA22 K w.heap.size w1 (a.tmps[28]?.getD undef) := hI.f 22 (by decide) (ready_dep hi rfl (e := ⟨22, .data⟩) (by simp) rfl)
      have s28 : a.tmps[28]?.getD undef = .agg #[.int .i64 3, .int .i64 0, .int .u64 0, .int .u64 0] := g28
      refine wpOp_step rfl (fun K' hK => ?_)
      go_simp
      refine hK _ _ ?_
      exact hI.step 23 (by decide) (World.grownBy.refl _ _) hI.co (show FA23 K w.heap.size w1 _ from rfl) 29 rfl
    | 24, _ =>
      refine wpOp_step rfl (fun K' hK => ?_)
      go_simp
      refine hK _ _ ?_
      exact hI.step 24 (by decide) (World.grownBy.refl _ _) hI.co (show FA24 K w.heap.size w1 _ from rfl) 30 rfl
    | 25, _ =>
      have g30 : FA24 K w.heap.size w1 (a.tmps[30]?.getD undef) := hI.f 24 (by decide) (ready_dep hi rfl (e := ⟨24, .data⟩) (by simp) rfl)
      have s30 : a.tmps[30]?.getD undef = .agg #[.int .i64 3, .int .i64 1, .int .u64 0, .int .u64 0] := g30
      refine wpOp_step rfl (fun K' hK => ?_)
      go_simp
      refine hK _ _ ?_
      exact hI.step 25 (by decide) (World.grownBy.refl _ _) hI.co (show FA25 K w.heap.size w1 _ from rfl) 31 rfl
    | 26, _ =>
      have g27 : FA21 K w.heap.size w1 (a.tmps[27]?.getD undef) := hI.f 21 (by decide) (ready_dep hi rfl (e := ⟨21, .data⟩) (by simp) rfl)
      have s27 : a.tmps[27]?.getD undef = .agg #[.int .i64 4, .int .i64 3, .int .i64 0, .int .i64 0, .int .u64 0, .int .u64 0] := g27
      have g29 : FA23 K w.heap.size w1 (a.tmps[29]?.getD undef) := hI.f 23 (by decide) (ready_dep hi rfl (e := ⟨23, .data⟩) (by simp) rfl)
      have s29 : a.tmps[29]?.getD undef = .agg #[.int .i64 1, .int .i64 9, .int .i64 3, .int .i64 0, .int .u64 0, .int .u64 0] := g29
      have g31 : FA25 K w.heap.size w1 (a.tmps[31]?.getD undef) := hI.f 25 (by decide) (ready_dep hi rfl (e := ⟨25, .data⟩) (by simp) rfl)
      have s31 : a.tmps[31]?.getD undef = .agg #[.int .i64 3, .int .i64 8, .int .i64 3, .int .i64 1, .int .u64 0, .int .u64 0] := g31
      refine wpOp_step rfl (fun K' hK => ?_)
      obtain ⟨pc, hc⟩ := hI.co
      go_simp
      refine hK _ _ ?_
      exact hI.step 26 (by decide) (grown_alloc w1 _ _) ⟨pc, hc.kept (grown_alloc w1 _ none) (by simp) (by simp)⟩ (show FA26 K w.heap.size _ _ from SlOf.new hc.lt hI.grown.size _ _ _) 32 rfl
    | 27, _ =>
      have g26 : FA20 K w.heap.size w1 (a.tmps[26]?.getD undef) := hI.f 20 (by decide) (ready_dep hi rfl (e := ⟨20, .data⟩) (by simp) rfl)
      have g26x := g26
      obtain ⟨L26, s26, _⟩ := g26x
      have s26 : a.tmps[26]?.getD undef = .slice (some ⟨L26, 0, none⟩) 2 2 := s26
      have g32 : FA26 K w.heap.size w1 (a.tmps[32]?.getD undef) := hI.f 26 (by decide) (ready_dep hi rfl (e := ⟨26, .data⟩) (by simp) rfl)
      have g32x := g32
      obtain ⟨L32, s32, _⟩ := g32x
      have s32 : a.tmps[32]?.getD undef = .slice (some ⟨L32, 0, none⟩) 3 3 := s32
      refine wpOp_step rfl (fun K' hK => ?_)
      go_simp
      refine hK _ _ ?_
      exact hI.step 27 (by decide) (World.grownBy.refl _ _) hI.co (show FA27 K w.heap.size w1 _ from ⟨_, _, (s26 ▸ g26), (s32 ▸ g32), rfl⟩) 33 rfl
    | 28, _ =>
      have t0 := hI.t0
      refine wpOp_step rfl (fun K' hK => ?_)
      go_simp
      refine hK _ _ ?_
      exact hI.step 28 (by decide) (World.grownBy.refl _ _) hI.co (show FA28 K w.heap.size w1 _ from rfl) 34 rfl
    | 29, _ =>
      have g34 : FA28 K w.heap.size w1 (a.tmps[34]?.getD undef) := hI.f 28 (by decide) (ready_dep hi rfl (e := ⟨28, .data⟩) (by simp) rfl)
      have s34 : a.tmps[34]?.getD undef = .pointer (some ⟨K, 0, none⟩) := g34
      refine wpOp_step rfl (fun K' hK => ?_)
      obtain ⟨pc, hc⟩ := hI.co
      go_simp
      go_wp2_with (go_at_call 30; ((with_reducible refine (next2 hc).mono ?_); rintro e w2 ⟨q, hq, rfl, hg2, p2, h2⟩))
      exact hI.step 29 (by decide) hg2 ⟨p2, h2⟩ (show FA29 K w.heap.size w2 _ from ⟨q, hq, rfl⟩) 35 rfl
    | 30, _ =>
      have g35 : FA29 K w.heap.size w1 (a.tmps[35]?.getD undef) := hI.f 29 (by decide) (ready_dep hi rfl (e := ⟨29, .data⟩) (by simp) rfl)
      have g35x := g35
      obtain ⟨q, k35_0, k35_1⟩ := g35x
      have s35 : a.tmps[35]?.getD undef = .int .i64 q := k35_1
      refine wpOp_step rfl (fun K' hK => ?_)
      have b35 : (q : Int) < 2 := by omega
      have wr : IntKind.i64.wrap (2 + (q : Int)) = 2 + (q : Int) := IntWalk.i64_in _ (by omega)
      go_simp
      refine hK _ _ ?_
      exact hI.step 30 (by decide) (World.grownBy.refl _ _) hI.co (show FA30 K w.heap.size w1 _ from ⟨q, k35_0, rfl⟩) 36 rfl
    | 31, _ =>
      have g36 : FA30 K w.heap.size w1 (a.tmps[36]?.getD undef) := hI.f 30 (by decide) (ready_dep hi rfl (e := ⟨30, .data⟩) (by simp) rfl)
      have g36x := g36
      obtain ⟨q, k36_0, k36_1⟩ := g36x
      have s36 : a.tmps[36]?.getD undef = .int .i64 (2 + (q : Int)) := k36_1
      refine wpOp_step rfl (fun K' hK => ?_)
      go_simp
      refine hK _ _ ?_
      exact hI.step 31 (by decide) (World.grownBy.refl _ _) hI.co (show FA31 K w.heap.size w1 _ from ⟨q, k36_0, rfl⟩) 37 rfl
    | 32, _ =>
      have t0 := hI.t0
      refine wpOp_step rfl (fun K' hK => ?_)
      go_simp
      refine hK _ _ ?_
      exact hI.step 32 (by decide) (World.grownBy.refl _ _) hI.co (show FA32 K w.heap.size w1 _ from rfl) 38 rfl
    | 33, _ =>
      have g38 : FA32 K w.heap.size w1 (a.tmps[38]?.getD undef) := hI.f 32 (by decide) (ready_dep hi rfl (e := ⟨32, .data⟩) (by simp) rfl)
      have s38 : a.tmps[38]?.getD undef = .pointer (some ⟨K, 0, none⟩) := g38
      refine wpOp_step rfl (fun K' hK => ?_)
      obtain ⟨pc, hc⟩ := hI.co
      go_simp
      go_wp2_with (go_at_call 30; ((with_reducible refine (next256 hc).mono ?_); rintro e w2 ⟨q, hq, rfl, hg2, p2, h2⟩))
      exact hI.step 33 (by decide) hg2 ⟨p2, h2⟩ (show FA33 K w.heap.size w2 _ from ⟨q, hq, rfl⟩) 39 rfl
    | 34, _ =>
      have g39 : FA33 K w.heap.size w1 (a.tmps[39]?.getD undef) := hI.f 33 (by decide) (ready_dep hi rfl (e := ⟨33, .data⟩) (by simp) rfl)
      have g39x := g39
      obtain ⟨r, k39_0, k39_1⟩ := g39x
      have s39 : a.tmps[39]?.getD undef = .int .i64 r := k39_1
      refine wpOp_step rfl (fun K' hK => ?_)
      have b39 : (r : Int) < 256 := by omega
      have wr : IntKind.u64.wrap (r : Int) = r := IntWalk.u64_in _ (by omega)
      go_simp
      refine hK _ _ ?_
      exact hI.step 34 (by decide) (World.grownBy.refl _ _) hI.co (show FA34 K w.heap.size w1 _ from ⟨r, k39_0, rfl⟩) 40 rfl
    | 35, _ =>
      have g40 : FA34 K w.heap.size w1 (a.tmps[40]?.getD undef) := hI.f 34 (by decide) (ready_dep hi rfl (e := ⟨34, .data⟩) (by simp) rfl)
      have g40x := g40
      obtain ⟨r, k40_0, k40_1⟩ := g40x
      have s40 : a.tmps[40]?.getD undef = .int .u64 r := k40_1
      refine wpOp_step rfl (fun K' hK => ?_)
      go_simp
      refine hK _ _ ?_
      exact hI.step 35 (by decide) (World.grownBy.refl _ _) hI.co (show FA35 K w.heap.size w1 _ from ⟨r, k40_0, rfl⟩) 41 rfl
    | 36, _ =>
      have g41 : FA35 K w.heap.size w1 (a.tmps[41]?.getD undef) := hI.f 35 (by decide) (ready_dep hi rfl (e := ⟨35, .data⟩) (by simp) rfl)
      have g41x := g41
      obtain ⟨r, k41_0, k41_1⟩ := g41x
      have s41 : a.tmps[41]?.getD undef = .agg #[.int .u64 0, .int .u64 r] := k41_1
      refine wpOp_step rfl (fun K' hK => ?_)
      go_simp
      refine hK _ _ ?_
      exact hI.step 36 (by decide) (World.grownBy.refl _ _) hI.co (show FA36 K w.heap.size w1 _ from ⟨r, k41_0, rfl⟩) 42 rfl
    | 37, _ =>
      have g42 : FA36 K w.heap.size w1 (a.tmps[42]?.getD undef) := hI.f 36 (by decide) (ready_dep hi rfl (e := ⟨36, .data⟩) (by simp) rfl)
      have g42x := g42
      obtain ⟨r, k42_0, k42_1⟩ := g42x
      have s42 : a.tmps[42]?.getD undef = .agg #[.int .i64 1, .int .i64 0, .int .u64 0, .int .u64 r] := k42_1
      refine wpOp_step rfl (fun K' hK => ?_)
      go_simp
      refine hK _ _ ?_
      exact hI.step 37 (by decide) (World.grownBy.refl _ _) hI.co (show FA37 K w.heap.size w1 _ from ⟨r, k42_0, rfl⟩) 43 rfl
    | 38, _ =>
      have g37 : FA31 K w.heap.size w1 (a.tmps[37]?.getD undef) := hI.f 31 (by decide) (ready_dep hi rfl (e := ⟨31, .data⟩) (by simp) rfl)
      have g37x := g37
      obtain ⟨q, k37_0, k37_1⟩ := g37x
      have s37 : a.tmps[37]?.getD undef = .agg #[.int .i64 5, .int .i64 (2 + (q : Int)), .int .i64 0, .int .i64 0, .int .u64 0, .int .u64 0] := k37_1
      have g43 : FA37 K w.heap.size w1 (a.tmps[43]?.getD undef) := hI.f 37 (by decide) (ready_dep hi rfl (e := ⟨37, .data⟩) (by simp) rfl)
      have g43x := g43
      obtain ⟨r, k43_0, k43_1⟩ := g43x
      have s43 : a.tmps[43]?.getD undef = .agg #[.int .i64 2, .int .i64 6, .int .i64 1, .int .i64 0, .int .u64 0, .int .u64 r] := k43_1
      refine wpOp_step rfl (fun K' hK => ?_)
      obtain ⟨pc, hc⟩ := hI.co
      go_simp
      refine hK _ _ ?_
      exact hI.step 38 (by decide) (grown_alloc w1 _ _) ⟨pc, hc.kept (grown_alloc w1 _ none) (by simp) (by simp)⟩ (show FA38 K w.heap.size _ _ from ⟨q, r, k37_0, k43_0, SlOf.new hc.lt hI.grown.size _ _ _⟩) 44 rfl
    | 39, _ =>
      have g44 : FA38 K w.heap.size w1 (a.tmps[44]?.getD undef) := hI.f 38 (by decide) (ready_dep hi rfl (e := ⟨38, .data⟩) (by simp) rfl)
      have g44x := g44
      obtain ⟨q, r, k44_0, k44_1, k44_2⟩ := g44x
      obtain ⟨L44, s44, bx44⟩ := k44_2
      have s44 : a.tmps[44]?.getD undef = .slice (some ⟨L44, 0, none⟩) 2 2 := s44
      refine wpOp_step rfl (fun K' hK => ?_)
      go_simp
      refine hK _ _ ?_
      exact hI.step 39 (by decide) (World.grownBy.refl _ _) hI.co (show FA39 K w.heap.size w1 _ from ⟨q, r, _, k44_0, k44_1, ⟨L44, rfl, bx44⟩, rfl⟩) 45 rfl
    | 40, _ =>
      have g6 : FA0 K w.heap.size w1 (a.tmps[6]?.getD undef) := hI.f 0 (by decide) (ready_dep hi rfl (e := ⟨0, .data⟩) (by simp) rfl)
      have s6 : a.tmps[6]?.getD undef = .agg #[.int .i64 1, .string ⟨#[110, 111, 112]⟩, .slice none 0 0, .slice none 0 0, .string ⟨#[]⟩] := g6
      have g9 : FA3 K w.heap.size w1 (a.tmps[9]?.getD undef) := hI.f 3 (by decide) (ready_dep hi rfl (e := ⟨3, .data⟩) (by simp) rfl)
      have g9x := g9
      obtain ⟨v89, k9_0, k9_1⟩ := g9x
      have s9 : a.tmps[9]?.getD undef = .agg #[.int .i64 2, .string ⟨#[100, 114, 111, 112]⟩, .slice none 0 0, v89, .string ⟨#[]⟩] := k9_1
      have g15 : FA9 K w.heap.size w1 (a.tmps[15]?.getD undef) := hI.f 9 (by decide) (ready_dep hi rfl (e := ⟨9, .data⟩) (by simp) rfl)
      have g15x := g15
      obtain ⟨v1115, v1415, k15_0, k15_1, k15_2⟩ := g15x
      have s15 : a.tmps[15]?.getD undef = .agg #[.int .i64 3, .string ⟨#[102, 111, 114, 119, 97, 114, 100]⟩, v1115, v1415, .string ⟨#[]⟩] := k15_2
      have g23 : FA17 K w.heap.size w1 (a.tmps[23]?.getD undef) := hI.f 17 (by decide) (ready_dep hi rfl (e := ⟨17, .data⟩) (by simp) rfl)
      have g23x := g23
      obtain ⟨v1723, v2223, k23_0, k23_1, k23_2⟩ := g23x
      have s23 : a.tmps[23]?.getD undef = .agg #[.int .i64 4, .string ⟨#[116, 97, 103]⟩, v1723, v2223, .string ⟨#[]⟩] := k23_2
      have g33 : FA27 K w.heap.size w1 (a.tmps[33]?.getD undef) := hI.f 27 (by decide) (ready_dep hi rfl (e := ⟨27, .data⟩) (by simp) rfl)
      have g33x := g33
      obtain ⟨v2633, v3233, k33_0, k33_1, k33_2⟩ := g33x
      have s33 : a.tmps[33]?.getD undef = .agg #[.int .i64 5, .string ⟨#[119, 114, 97, 112]⟩, v2633, v3233, .string ⟨#[]⟩] := k33_2
      have g45 : FA39 K w.heap.size w1 (a.tmps[45]?.getD undef) := hI.f 39 (by decide) (ready_dep hi rfl (e := ⟨39, .data⟩) (by simp) rfl)
      have g45x := g45
      obtain ⟨q, r, v4445, k45_0, k45_1, k45_2, k45_3⟩ := g45x
      have s45 : a.tmps[45]?.getD undef = .agg #[.int .i64 6, .string ⟨#[115, 116, 114, 105, 112]⟩, .slice none 0 0, v4445, .string ⟨#[]⟩] := k45_3
      refine wpOp_step rfl (fun K' hK => ?_)
      obtain ⟨pc, hc⟩ := hI.co
      go_simp
      refine hK _ _ ?_
      exact hI.step 40 (by decide) (grown_alloc w1 _ _) ⟨pc, hc.kept (grown_alloc w1 _ none) (by simp) (by simp)⟩ (show FA40 K w.heap.size _ _ from ⟨q, r, v89, v1115, v1415, v1723, v2223, v2633, v3233, v4445, k45_0, k45_1, SlOf.kept (grown_alloc w1 _ _) k9_0, SlOf.kept (grown_alloc w1 _ _) k15_0, SlOf.kept (grown_alloc w1 _ _) k15_1, SlOf.kept (grown_alloc w1 _ _) k23_0, SlOf.kept (grown_alloc w1 _ _) k23_1, SlOf.kept (grown_alloc w1 _ _) k33_0, SlOf.kept (grown_alloc w1 _ _) k33_1, SlOf.kept (grown_alloc w1 _ _) k45_2, ⟨_, rfl, Bx.new hc.lt _ _, hI.grown.size⟩⟩) 46 rfl
    | 41, _ =>
      have g46 : FA40 K w.heap.size w1 (a.tmps[46]?.getD undef) := hI.f 40 (by decide) (ready_dep hi rfl (e := ⟨40, .data⟩) (by simp) rfl)
      have g46x := g46
      obtain ⟨q, r, v846, v1146, v1446, v1746, v2246, v2646, v3246, v4446, k46_0, k46_1, k46_2, k46_3, k46_4, k46_5, k46_6, k46_7, k46_8, k46_9, k46_10⟩ := g46x
      obtain ⟨L46, s46, bx46⟩ := k46_10
      have s46 : a.tmps[46]?.getD undef = .slice (some ⟨L46, 0, none⟩) 6 6 := s46
      refine wpOp_step rfl (fun K' hK => ?_)
      go_simp
      refine hK _ _ ?_
      exact hI.step 41 (by decide) (World.grownBy.refl _ _) hI.co (show FA41 K w.heap.size w1 _ from ⟨q, r, _, _, _, _, _, _, _, _, k46_0, k46_1, k46_2, k46_3, k46_4, k46_5, k46_6, k46_7, k46_8, k46_9, ⟨L46, rfl, bx46⟩⟩) 4 rfl
    | _ + 42, hx => exact absurd hx (by omega)
  · intro listed a w1 hI hr
    have hall := ready_all (by kernel_rfl) hI.lsize hr
    have h46 : FA41 K w.heap.size w1 (a.tmps[4]?.getD undef) := hI.f 41 (by decide) (hall 41 (by decide))
    have hT0 := hI.t0
    have hD := hI.defers
    have hsz := hI.size
    have HI := Lib.hid hI
    have HG := Lib.hid hI.grown
    obtain ⟨pc, hc⟩ := hI.co
    clear hI hall hr
    obtain ⟨tm, df⟩ := a
    obtain ⟨ls⟩ := tm
    simp only at hD
    subst hD
    have hx : ls.length = 57 + 1 := hsz
    clear hsz
    obtain ⟨x0, t0, rfl, hx1⟩ := cons_of hx
    obtain ⟨x1, t1, rfl, hx2⟩ := cons_of hx1
    obtain ⟨x2, t2, rfl, hx3⟩ := cons_of hx2
    obtain ⟨x3, t3, rfl, hx4⟩ := cons_of hx3
    obtain ⟨x4, t4, rfl, hx5⟩ := cons_of hx4
    obtain ⟨x5, t5, rfl, hx6⟩ := cons_of hx5
    obtain ⟨x6, t6, rfl, hx7⟩ := cons_of hx6
    obtain ⟨x7, t7, rfl, hx8⟩ := cons_of hx7
    obtain ⟨x8, t8, rfl, hx9⟩ := cons_of hx8
    obtain ⟨x9, t9, rfl, hx10⟩ := cons_of hx9
    obtain ⟨x10, t10, rfl, hx11⟩ := cons_of hx10
    obtain ⟨x11, t11, rfl, hx12⟩ := cons_of hx11
    obtain ⟨x12, t12, rfl, hx13⟩ := cons_of hx12
    obtain ⟨x13, t13, rfl, hx14⟩ := cons_of hx13
    obtain ⟨x14, t14, rfl, hx15⟩ := cons_of hx14
    obtain ⟨x15, t15, rfl, hx16⟩ := cons_of hx15
    obtain ⟨x16, t16, rfl, hx17⟩ := cons_of hx16
    obtain ⟨x17, t17, rfl, hx18⟩ := cons_of hx17
    obtain ⟨x18, t18, rfl, hx19⟩ := cons_of hx18
    obtain ⟨x19, t19, rfl, hx20⟩ := cons_of hx19
    obtain ⟨x20, t20, rfl, hx21⟩ := cons_of hx20
    obtain ⟨x21, t21, rfl, hx22⟩ := cons_of hx21
    obtain ⟨x22, t22, rfl, hx23⟩ := cons_of hx22
    obtain ⟨x23, t23, rfl, hx24⟩ := cons_of hx23
    obtain ⟨x24, t24, rfl, hx25⟩ := cons_of hx24
    obtain ⟨x25, t25, rfl, hx26⟩ := cons_of hx25
    obtain ⟨x26, t26, rfl, hx27⟩ := cons_of hx26
    obtain ⟨x27, t27, rfl, hx28⟩ := cons_of hx27
    obtain ⟨x28, t28, rfl, hx29⟩ := cons_of hx28
    obtain ⟨x29, t29, rfl, hx30⟩ := cons_of hx29
    obtain ⟨x30, t30, rfl, hx31⟩ := cons_of hx30
    obtain ⟨x31, t31, rfl, hx32⟩ := cons_of hx31
    obtain ⟨x32, t32, rfl, hx33⟩ := cons_of hx32
    obtain ⟨x33, t33, rfl, hx34⟩ := cons_of hx33
    obtain ⟨x34, t34, rfl, hx35⟩ := cons_of hx34
    obtain ⟨x35, t35, rfl, hx36⟩ := cons_of hx35
    obtain ⟨x36, t36, rfl, hx37⟩ := cons_of hx36
    obtain ⟨x37, t37, rfl, hx38⟩ := cons_of hx37
    obtain ⟨x38, t38, rfl, hx39⟩ := cons_of hx38
    obtain ⟨x39, t39, rfl, hx40⟩ := cons_of hx39
    obtain ⟨x40, t40, rfl, hx41⟩ := cons_of hx40
    obtain ⟨x41, t41, rfl, hx42⟩ := cons_of hx41
    obtain ⟨x42, t42, rfl, hx43⟩ := cons_of hx42
    obtain ⟨x43, t43, rfl, hx44⟩ := cons_of hx43
    obtain ⟨x44, t44, rfl, hx45⟩ := cons_of hx44
    obtain ⟨x45, t45, rfl, hx46⟩ := cons_of hx45
    obtain ⟨x46, t46, rfl, hx47⟩ := cons_of hx46
    obtain ⟨x47, t47, rfl, hx48⟩ := cons_of hx47
    obtain ⟨x48, t48, rfl, hx49⟩ := cons_of hx48
    obtain ⟨x49, t49, rfl, hx50⟩ := cons_of hx49
    obtain ⟨x50, t50, rfl, hx51⟩ := cons_of hx50
    obtain ⟨x51, t51, rfl, hx52⟩ := cons_of hx51
    obtain ⟨x52, t52, rfl, hx53⟩ := cons_of hx52
    obtain ⟨x53, t53, rfl, hx54⟩ := cons_of hx53
    obtain ⟨x54, t54, rfl, hx55⟩ := cons_of hx54
    obtain ⟨x55, t55, rfl, hx56⟩ := cons_of hx55
    obtain ⟨x56, t56, rfl, hx57⟩ := cons_of hx56
    obtain ⟨x57, t57, rfl, hx58⟩ := cons_of hx57
    obtain rfl : t57 = [] := List.eq_nil_of_length_eq_zero hx58
    clear hx hx1 hx2 hx3 hx4 hx5 hx6 hx7 hx8 hx9 hx10 hx11 hx12 hx13 hx14 hx15 hx16 hx17 hx18 hx19 hx20 hx21 hx22 hx23 hx24 hx25 hx26 hx27 hx28 hx29 hx30 hx31 hx32 hx33 hx34 hx35 hx36 hx37 hx38 hx39 hx40 hx41 hx42 hx43 hx44 hx45 hx46 hx47 hx48 hx49 hx50 hx51 hx52 hx53 hx54 hx55 hx56 hx57 hx58
    have e0 : x0 = .pointer (some ⟨K, 0, none⟩) := hT0
    subst e0
    have h4 : FA41 K w.heap.size w1 x4 := h46
    clear h46 hT0
    obtain ⟨q, r, v8, v11, v14, v17, v22, v26, v32, v44, hq, hrr, s8, s11, s14, s17, s22, s26, s32, s44, ⟨L, rfl, hb, hBL⟩⟩ := h4
    have HP := Lib.hid (ActParts.mk hq hrr s8 s11 s14 s17 s22 s26 s32 s44)
    have hb0 : Bx K L (actCells v8 v11 v14 v17 v22 v26 v32 v44 (.string ⟨#[]⟩) (.string ⟨#[]⟩)) w1 := hb
    have HB0 := Lib.hid hb0
    clear hb hb0 hq hrr s8 s11 s14 s17 s22 s26 s32 s44
    have HBo := Lib.hid (cobool_any hc)
    clear hc HI
    go_wp2_with fail
    refine HBo.out.mono ?_
    rintro e w2 ⟨b, rfl, hg2, p2, hc2⟩
    clear HBo
    have HP2 := Lib.hid (HP.out.chose hg2)
    have HB2 := Lib.hid (HB0.out.chose hg2)
    have HG2 := Lib.hid (World.grownBy.trans HG.out hg2)
    clear HP HB0 HG hg2
    cases b
    · have HBo := Lib.hid (cobool_any hc2)
      go_wp2_with fail
      refine HBo.out.mono ?_
      rintro e w4 ⟨b, rfl, hg4, p4, hc4⟩
      clear HBo
      have HP4 := Lib.hid (HP2.out.chose hg4)
      have HB4 := Lib.hid (HB2.out.chose hg4)
      have HG4 := Lib.hid (World.grownBy.trans HG2.out hg4)
      clear HP2 HB2 HG2 hg4
      cases b
      · go_wp2_with fail
        go_ret
        exact ⟨_, rfl, ⟨q, r, v8, v11, v14, v17, v22, v26, v32, v44, .string ⟨#[]⟩, .string ⟨#[]⟩, HP4.out, ⟨L, rfl, HB4.out, hBL⟩, .inl rfl, .inl rfl⟩, HG4.out, p4, hc4⟩
      · have h24 : w4.cell? ⟨L, 24, none⟩ = some (.string ⟨#[]⟩) := HB4.out.c 24 (by simp [actCells])
        have f24 := HB4.out.f 24
        go_wp2_with fail
        go_ret
        exact ⟨_, rfl, ⟨q, r, v8, v11, v14, v17, v22, v26, v32, v44, .string ⟨#[]⟩, .string ⟨#[120, 32, 60, 32, 121, 32, 124, 124, 32, 120, 32, 61, 61, 32, 49, 53]⟩, HP4.out.set HB4.out 24 (.string ⟨#[120, 32, 60, 32, 121, 32, 124, 124, 32, 120, 32, 61, 61, 32, 49, 53]⟩), ⟨L, rfl, HB4.out.set 24 (.string ⟨#[120, 32, 60, 32, 121, 32, 124, 124, 32, 120, 32, 61, 61, 32, 49, 53]⟩), hBL⟩, .inl rfl, .inr rfl⟩, grown_own HG4.out hBL 24 (.string ⟨#[120, 32, 60, 32, 121, 32, 124, 124, 32, 120, 32, 61, 61, 32, 49, 53]⟩), p4, hc4.kept (grown_set w4 L 24 (.string ⟨#[120, 32, 60, 32, 121, 32, 124, 124, 32, 120, 32, 61, 61, 32, 49, 53]⟩)) (fun e => HB4.out.ne (by injection e)) (fun e0 e => by have := HC.out.dlt e0; injection e with e; omega)⟩
    · have h14 : w2.cell? ⟨L, 14, none⟩ = some (.string ⟨#[]⟩) := HB2.out.c 14 (by simp [actCells])
      have f14 := HB2.out.f 14
      go_wp2_with fail
      have HP3 := Lib.hid (HP2.out.set HB2.out 14 (.string ⟨#[112, 111, 114, 116, 32, 33, 61, 32, 48]⟩))
      have hb3 : Bx K L (actCells v8 v11 v14 v17 v22 v26 v32 v44 (.string ⟨#[112, 111, 114, 116, 32, 33, 61, 32, 48]⟩) (.string ⟨#[]⟩)) _ := HB2.out.set 14 (.string ⟨#[112, 111, 114, 116, 32, 33, 61, 32, 48]⟩)
      have HB3 := Lib.hid hb3
      have HG3 := Lib.hid (grown_own HG2.out hBL 14 (.string ⟨#[112, 111, 114, 116, 32, 33, 61, 32, 48]⟩))
      have hc3 := hc2.kept (grown_set w2 L 14 (.string ⟨#[112, 111, 114, 116, 32, 33, 61, 32, 48]⟩)) (fun e => HB2.out.ne (by injection e)) (fun e0 e => by have := HC.out.dlt e0; injection e with e; omega)
      clear hb3 h14 f14 HP2 HB2 HG2 hc2
      have HBo := Lib.hid (cobool_any hc3)
      refine HBo.out.mono ?_
      rintro e w4 ⟨b, rfl, hg4, p4, hc4⟩
      clear HBo
      have HP4 := Lib.hid (HP3.out.chose hg4)
      have HB4 := Lib.hid (HB3.out.chose hg4)
      have HG4 := Lib.hid (World.grownBy.trans HG3.out hg4)
      clear HP3 HB3 HG3 hg4
      cases b
      · go_wp2_with fail
        go_ret
        exact ⟨_, rfl, ⟨q, r, v8, v11, v14, v17, v22, v26, v32, v44, .string ⟨#[112, 111, 114, 116, 32, 33, 61, 32, 48]⟩, .string ⟨#[]⟩, HP4.out, ⟨L, rfl, HB4.out, hBL⟩, .inr rfl, .inl rfl⟩, HG4.out, p4, hc4⟩
      · have h24 : w4.cell? ⟨L, 24, none⟩ = some (.string ⟨#[]⟩) := HB4.out.c 24 (by simp [actCells])
        have f24 := HB4.out.f 24
        go_wp2_with fail
        go_ret
        exact ⟨_, rfl, ⟨q, r, v8, v11, v14, v17, v22, v26, v32, v44, .string ⟨#[112, 111, 114, 116, 32, 33, 61, 32, 48]⟩, .string ⟨#[120, 32, 60, 32, 121, 32, 124, 124, 32, 120, 32, 61, 61, 32, 49, 53]⟩, HP4.out.set HB4.out 24 (.string ⟨#[120, 32, 60, 32, 121, 32, 124, 124, 32, 120, 32, 61, 61, 32, 49, 53]⟩), ⟨L, rfl, HB4.out.set 24 (.string ⟨#[120, 32, 60, 32, 121, 32, 124, 124, 32, 120, 32, 61, 61, 32, 49, 53]⟩), hBL⟩, .inr rfl, .inr rfl⟩, grown_own HG4.out hBL 24 (.string ⟨#[120, 32, 60, 32, 121, 32, 124, 124, 32, 120, 32, 61, 61, 32, 49, 53]⟩), p4, hc4.kept (grown_set w4 L 24 (.string ⟨#[120, 32, 60, 32, 121, 32, 124, 124, 32, 120, 32, 61, 61, 32, 49, 53]⟩)) (fun e => HB4.out.ne (by injection e)) (fun e0 e => by have := HC.out.dlt e0; injection e with e; omega)⟩
  · refine ⟨rfl, rfl, rfl, rfl, rfl, ?_, ?_, ?_, fun i _ hl => ?_⟩
    · exact (Bx.new h.lt [.int .i64 3, .int .i64 0, .int .u64 0, .int .u64 0] 176).drew
    · exact ⟨p, (h.kept (grown_alloc w _ none) (by simp) (by simp)).drew⟩
    · exact ⟨rfl, rfl, rfl, (grown_alloc w _ (some K)).size, (grown_alloc w _ (some K)).block⟩
    · exfalso
      rw [Array.getD_eq_getD_getElem?, Array.getElem?_replicate] at hl
      split at hl <;> cases hl
end Go.Proofs.YtldgjahpmlafgaaGreat
