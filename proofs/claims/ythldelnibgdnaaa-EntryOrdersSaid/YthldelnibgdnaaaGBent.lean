/- The law's bent. -/
import Derived.Test.YthldelnibgdnaaaGBentP
namespace Go.Proofs.Ythldelnibgdnaaa
open Go.RowKit
def slB : List Nat := [12, 13, 14, 15, 16, 17, 18, 19, 20, 21]
def RetBent (w : World) (en : Ending) (w' : World) : Prop := ∃ (e : EntryD) (A U : Option Addr) (n c m d : Nat), en = .returned (.agg #[.int .i64 e.table, .slice A n c, .int .i64 e.prio, .int .i64 e.action, .slice U m d]) ∧ RowH 8 MatchV w.heap.size w'.heap.size w' (.slice A n c) e.ms ∧ RowH 2 ValV w.heap.size w'.heap.size w' (.slice U m d) e.args ∧ Below w.heap.size w w'
theorem mem_ok {α : Type} {sz B : Nat} {P : CellP α} {w : World} {v : Value} {xs : List α} (h : RowV sz P B w v xs) : ∀ x ∈ xs, ∃ cs, P B w cs x := fun x hx => by
  obtain ⟨_, _, _, _, _, _, _, hz | ⟨b, o, _, hc⟩⟩ := h
  · rw [hz] at hx; cases hx
  · obtain ⟨i, hi, rfl⟩ := List.getElem_of_mem hx
    obtain ⟨_, cs, _, hP⟩ := hc i _ (List.getElem?_eq_getElem hi)
    exact ⟨cs, hP⟩
theorem flat_getB {α : Type} {sz : Nat} {enc : α → List Value} (hl : ∀ x, (enc x).length = sz) (h0 : 0 < sz) (xs : List α) (i : Nat) (u : Value) (hu : (flat enc xs)[i]? = some u) : ∃ x ∈ xs, (enc x)[i % sz]? = some u := by
  have hj := (List.getElem?_eq_some_iff.1 hu).1
  rw [flat_lenB hl] at hj
  have hd : i / sz < xs.length := (Nat.div_lt_iff_lt_mul h0).2 hj
  have hx : xs[i / sz]? = some (xs[i / sz]'hd) := List.getElem?_eq_getElem hd
  have hg := flatM_get (xs.map (fun x => (enc x, x))) (fun q hq => by obtain ⟨x, _, rfl⟩ := List.mem_map.1 hq; exact hl x) (i / sz) (i % sz) (enc (xs[i / sz]'hd), xs[i / sz]'hd) (by rw [List.getElem?_map, hx]; rfl) (Nat.mod_lt i h0)
  have ej : i / sz * sz + i % sz = i := by rw [Nat.mul_comm]; exact Nat.div_add_mod i sz
  have hfl : (xs.map (fun x => (enc x, x))).flatMap Prod.fst = flat enc xs := by simp [flat, List.flatMap_map]
  rw [hfl, ej, hu] at hg
  exact ⟨_, List.getElem_mem hd, hg.symm⟩
theorem hl_bd (x : Nat) (_ : x < 2 ^ 128) : (∃ a : Nat, hi x = a ∧ a < 18446744073709551616) ∧ ∃ a : Nat, lo x = a ∧ a < 18446744073709551616 := by
  unfold hi lo
  exact ⟨⟨_, rfl, by omega⟩, ⟨_, rfl, by omega⟩⟩
theorem mc_match (x : MatchD) (h : MatchOk x) (j : Nat) (u : Value) (hu : (matchCells x)[j]? = some u) : MC j u := by
  obtain ⟨h1, h2, h3, h4⟩ := h
  obtain ⟨⟨a, ea, la⟩, ⟨b, eb, lb⟩⟩ := hl_bd _ h1
  obtain ⟨⟨a2, ea2, la2⟩, ⟨b2, eb2, lb2⟩⟩ := hl_bd _ h2
  obtain ⟨⟨a3, ea3, la3⟩, ⟨b3, eb3, lb3⟩⟩ := hl_bd _ h3
  match j, hu with
  | 0, hu => simp [matchCells] at hu; exact ⟨_, hu.symm⟩
  | 1, hu => simp [matchCells, ea] at hu; exact ⟨_, hu.symm, la⟩
  | 2, hu => simp [matchCells, eb] at hu; exact ⟨_, hu.symm, lb⟩
  | 3, hu => simp [matchCells, ea2] at hu; exact ⟨_, hu.symm, la2⟩
  | 4, hu => simp [matchCells, eb2] at hu; exact ⟨_, hu.symm, lb2⟩
  | 5, hu => simp [matchCells] at hu; exact ⟨_, hu.symm, h4⟩
  | 6, hu => simp [matchCells, ea3] at hu; exact ⟨_, hu.symm, la3⟩
  | 7, hu => simp [matchCells, eb3] at hu; exact ⟨_, hu.symm, lb3⟩
  | j + 8, hu => simp [matchCells] at hu
theorem vc_val (x : Nat) (h : x < 2 ^ 128) (j : Nat) (u : Value) (hu : ([.int .u64 (hi x), .int .u64 (lo x)] : List Value)[j]? = some u) : VC j u := by
  obtain ⟨⟨a, ea, la⟩, ⟨b, eb, lb⟩⟩ := hl_bd _ h
  match j, hu with
  | 0, hu => simp [ea] at hu; exact ⟨_, hu.symm, la⟩
  | 1, hu => simp [eb] at hu; exact ⟨_, hu.symm, lb⟩
  | j + 2, hu => simp at hu
theorem and31 (k : Int) : bits .and .i64 k 31 ≤ 9223372036854775807 := by
  have := i64_mask k 5 (by omega)
  rw [show (((2 ^ 5 - 1 : Nat) : Int)) = 31 from rfl, show (((2 ^ 5 : Nat) : Int)) = 32 from rfl] at this
  rw [this]
  omega
theorem mc_hl (y : Nat) (h : y < 2 ^ 128) : (∃ z : Nat, Value.int .u64 (hi y) = .int .u64 z ∧ z < 18446744073709551616) ∧ ∃ z : Nat, Value.int .u64 (lo y) = .int .u64 z ∧ z < 18446744073709551616 := by
  obtain ⟨⟨a, ea, la⟩, ⟨b, eb, lb⟩⟩ := hl_bd y h
  exact ⟨⟨a, by rw [ea], la⟩, ⟨b, by rw [eb], lb⟩⟩
theorem good_v1 (x : Nat) (hx : x < 2 ^ 128) : GoodC VC 2 [.int .u64 (hi x), .int .u64 (lo x)] := fun i u hu => vc_val x hx (i % 2) u (by
  have h : i < 2 := by simpa using (List.getElem?_eq_some_iff.1 hu).1
  rw [Nat.mod_eq_of_lt h]; exact hu)
theorem good_m1 (b : Bool) (x : Nat) (hx : x < 2 ^ 128) : GoodC MC 8 [.bool b, .int .u64 (hi x), .int .u64 (lo x), .int .u64 0, .int .u64 0, .int .i64 0, .int .u64 0, .int .u64 0] := fun i u hu => by
  have h : i < 8 := by simpa using (List.getElem?_eq_some_iff.1 hu).1
  rw [Nat.mod_eq_of_lt h]
  match i, h, hu with
  | 0, _, hu => exact ⟨b, (Option.some.inj hu).symm⟩
  | 1, _, hu => rw [← Option.some.inj hu]; exact (mc_hl x hx).1
  | 2, _, hu => rw [← Option.some.inj hu]; exact (mc_hl x hx).2
  | 3, _, hu => exact ⟨0, (Option.some.inj hu).symm, by decide⟩
  | 4, _, hu => exact ⟨0, (Option.some.inj hu).symm, by decide⟩
  | 5, _, hu => exact ⟨0, (Option.some.inj hu).symm, by unfold I64; omega⟩
  | 6, _, hu => exact ⟨0, (Option.some.inj hu).symm, by decide⟩
  | 7, _, hu => exact ⟨0, (Option.some.inj hu).symm, by decide⟩
theorem BtS.arg {w W : World} {x : Nat} {t p a : Int} {v1 : Value} {g c n m : Nat} {xs ys : List Value} (h : BtS w W x t p a v1 (.slice (some ⟨g, 0, none⟩) m c) n m xs ys) (hx : x < 2 ^ 128) (k : Nat) : BtS w ((W.setCell ⟨g, k * 2, none⟩ (.int .u64 (hi x))).setCell ⟨g, k * 2 + 1, none⟩ (.int .u64 (lo x))) x t p a v1 (.slice (some ⟨g, 0, none⟩) m c) n m xs ((ys.set (k * 2) (.int .u64 (hi x))).set (k * 2 + 1) (.int .u64 (lo x))) := by
  obtain ⟨s1, hg1⟩ := World.ownsRow.stored h.r2 (k * 2) (.int .u64 (hi x))
  obtain ⟨s2, hg2⟩ := World.ownsRow.stored s1 (k * 2 + 1) (.int .u64 (lo x))
  have hg := hg1.trans hg2
  have hlo := (World.ownsRow.lt h.r2 g rfl).1
  have hz : w.heap.size + 2 < W.heap.size := (Array.getElem?_eq_some_iff.1 h.br).1
  have ha : ∀ i, i < w.heap.size + 3 → ((W.setCell ⟨g, k * 2, none⟩ (.int .u64 (hi x))).setCell ⟨g, k * 2 + 1, none⟩ (.int .u64 (lo x))).heap[i]? = W.heap[i]? := fun i hi => hg.block i (by omega) (fun e => by injection e with e; omega)
  exact ⟨⟨hg.os.trans h.bl.os, hg.tape.trans h.bl.tape, hg.output.trans h.bl.output, Nat.le_trans h.bl.size hg.size, fun i hi => (ha i (by omega)).trans (h.bl.block i hi)⟩, (ha _ (by omega)).trans h.be, (ha _ (by omega)).trans h.bv, (ha _ (by omega)).trans h.br, World.ownsRow.kept h.r1 hg (own_other h.r1 h.r2 (by decide)), s2, h.g1, (h.g2.set _ _ (mc_hl x hx).1).set _ _ (mc_hl x hx).2, h.ln⟩
theorem ones_128B (k : Int) : ones k < 2 ^ 128 := by
  unfold ones
  have := Nat.pow_le_pow_right (show 0 < 2 by decide) (show cl k ≤ 128 by unfold cl; omega)
  have := Nat.two_pow_pos (cl k)
  omega
set_option maxRecDepth 100000 in
set_option maxHeartbeats 2000000 in
theorem cs_modB (x : Int) (n : Nat) (h1 : 1 ≤ n) (h2 : n ≤ 2305843009213693952) (w : World) : Calls Try.prog 22 #[.int .i64 x, .int .i64 (n : Int)] w fun e w' => e = .returned (.int .i64 (modI x n)) ∧ w' = w := by
  obtain ⟨r, hr⟩ : ∃ r, r = modI x n := ⟨_, rfl⟩
  rw [← hr]
  unfold modI at hr
  obtain ⟨t, ht⟩ : ∃ t, x.tmod (n : Int) = t := ⟨_, rfl⟩
  rw [ht] at hr
  have hb1 : t < (n : Int) := by rw [← ht]; exact Int.tmod_lt_of_pos x (by omega)
  have hb2 : -(n : Int) < t := by rw [← ht]; exact Int.lt_tmod_of_pos x (by omega)
  have hw : IntKind.i64.wrap (t + (n : Int)) = t + (n : Int) := IntWalk.i64_in _ (by omega)
  have hr2 := hr.symm
  clear hr
  have hn1 : ¬ (n : Int) < 1 := by omega
  have hn0 : ¬ (n : Int) = 0 := by omega
  have hn0N : ¬ n = 0 := by omega
  go_enter Try.func22, Try.ntmps22
  go_wp2
  go_ret
  exact ⟨rfl, rfl⟩
theorem bent_end {w W : World} {x : Nat} {t p a : Int} {A1 A2 : Option Addr} {n c1 m c2 : Nat} {xs ys : List Value} (h : BtS w W x t p a (.slice A1 n c1) (.slice A2 m c2) n m xs ys) (y0 y1 y2 y3 y4 : Value) : RetBent w (.returned (.agg #[.int .i64 t, .slice A1 n c1, .int .i64 p, .int .i64 a, .slice A2 m c2])) (((((W.setCell ⟨w.heap.size + 2, 0, none⟩ y0).setCell ⟨w.heap.size + 2, 1, none⟩ y1).setCell ⟨w.heap.size + 2, 2, none⟩ y2).setCell ⟨w.heap.size + 2, 3, none⟩ y3).setCell ⟨w.heap.size + 2, 4, none⟩ y4) := by
  have hg := grown_set5 (k := w.heap.size + 2) W y0 y1 y2 y3 y4
  have hz : w.heap.size + 2 < W.heap.size := (Array.getElem?_eq_some_iff.1 h.br).1
  obtain ⟨ms, e1, rfl, k1⟩ := good_match n xs h.r1.1 h.g1
  obtain ⟨us, e2, rfl, k2⟩ := good_val m ys h.r2.1 h.g2
  subst e1 e2
  have r1 := World.ownsRow.kept h.r1 hg (.inr fun e => by have := (World.ownsRow.lt h.r1 _ e).1; omega)
  have r2 := World.ownsRow.kept h.r2 hg (.inr fun e => by have := (World.ownsRow.lt h.r2 _ e).1; omega)
  exact ⟨⟨t, ms, p, a, us⟩, A1, A2, ms.length, c1, us.length, c2, rfl, rowH_of_own (fun _ => rfl) (by omega) (Nat.le_refl _) (fun y hy w2 B _ _ => ⟨rfl, k1 y hy⟩) r1, rowH_of_own (fun _ => rfl) (by omega) (Nat.le_refl _) (fun y hy w2 B _ _ => ⟨rfl, k2 y hy⟩) r2,
    ⟨hg.os.trans h.bl.os, hg.tape.trans h.bl.tape, hg.output.trans h.bl.output, Nat.le_trans h.bl.size hg.size, fun k hk => (hg.block k (by omega) (fun e => by injection e with e; omega)).trans (h.bl.block k hk)⟩⟩
set_option maxRecDepth 100000 in
set_option maxHeartbeats 20000000 in
theorem bent_any {w : World} {B : Nat} (e : EntryD) {A U : Option Addr} {n c m d : Nat} (h : RowV 8 MatchV B w (.slice A n c) e.ms) (k : RowV 2 ValV B w (.slice U m d) e.args) (hB : B ≤ w.heap.size) (which q : Int) (hq : I64 q) (x : Nat) (hx : x < 2 ^ 128) (hn : n < 2199023255552) (hm : m < 8796093022208) : Calls Try.prog 8 #[.agg #[.int .i64 e.table, .slice A n c, .int .i64 e.prio, .int .i64 e.action, .slice U m d], .int .i64 which, .int .i64 q, .agg #[.int .u64 (hi x), .int .u64 (lo x)]] w (RetBent w) := by
  obtain ⟨i0, hi0, hi1, hi2, hi3⟩ := info_partsB info_matchB
  obtain ⟨i1, hv0, hv1, hv2, hv3⟩ := info_partsB info_valB
  have HI0 := Lib.hid hi0
  have HI1 := Lib.hid hi1
  have HI2 := Lib.hid hi2
  have HI3 := Lib.hid hi3
  have HV0 := Lib.hid hv0
  have HV1 := Lib.hid hv1
  have HV2 := Lib.hid hv2
  have HV3 := Lib.hid hv3
  have HX := Lib.hid hx
  have HQ := Lib.hid hq
  obtain ⟨hnl, hnc, hcm⟩ := h.len
  obtain ⟨hml, hmd, hdm⟩ := k.len
  have ho1 : ∀ u ∈ flat matchCells e.ms, u.oneCell' = true := fun u hu => by
    obtain ⟨y, _, hy⟩ := List.mem_flatMap.1 hu
    simp only [matchCells, List.mem_cons, List.not_mem_nil, or_false] at hy
    rcases hy with rfl | rfl | rfl | rfl | rfl | rfl | rfl | rfl <;> rfl
  have ho2 : ∀ u ∈ flat (fun u => [.int .u64 (hi u), .int .u64 (lo u)]) e.args, u.oneCell' = true := fun u hu => by
    obtain ⟨y, _, hy⟩ := List.mem_flatMap.1 hu
    simp only [List.mem_cons, List.not_mem_nil, or_false] at hy
    rcases hy with rfl | rfl <;> rfl
  have HO1 := Lib.hid ho1
  have HO2 := Lib.hid ho2
  have HL1 : Hid ((flat matchCells e.ms).length = n * 8) := Lib.hid (by rw [flat_lenB (sz := 8) (fun _ => rfl), ← hnl.out])
  have HL2 : Hid ((flat (fun u => [.int .u64 (hi u), .int .u64 (lo u)]) e.args).length = m * 2) := Lib.hid (by rw [flat_lenB (sz := 2) (fun _ => rfl), ← hml.out])
  have HS1 : Hid (∀ W, Below w.heap.size w W → SrcB W A n (flat matchCells e.ms)) := Lib.hid fun W hb => src_rowB (h.below kept_match (hb.mono hB)) (fun _ _ _ _ hP => hP.1) (fun _ => rfl) (by decide)
  have HS2 : Hid (∀ W, Below w.heap.size w W → SrcB W U m (flat (fun u => [.int .u64 (hi u), .int .u64 (lo u)]) e.args)) := Lib.hid fun W hb => src_rowB (k.below kept_val (hb.mono hB)) (fun _ _ _ _ hP => hP.1) (fun _ => rfl) (by decide)
  have HG1 : Hid (GoodC MC 8 (flat matchCells e.ms)) := Lib.hid fun i u hu => by
    obtain ⟨y, hy, hc⟩ := flat_getB (sz := 8) (fun _ => rfl) (by decide) _ i u hu
    obtain ⟨cs, hP⟩ := mem_ok h y hy
    exact mc_match y hP.2 _ _ hc
  have HG2 : Hid (GoodC VC 2 (flat (fun u => [.int .u64 (hi u), .int .u64 (lo u)]) e.args)) := Lib.hid fun i u hu => by
    obtain ⟨y, hy, hc⟩ := flat_getB (sz := 2) (fun _ => rfl) (by decide) _ i u hu
    obtain ⟨cs, hP⟩ := mem_ok k y hy
    exact vc_val y hP.2 _ _ hc
  obtain ⟨W0, hW0⟩ : ∃ W, W = ((w.alloc (.cells #[.int .i64 e.table, .slice A n c, .int .i64 e.prio, .int .i64 e.action, .slice U m d] 26)).alloc (.cells #[.int .u64 (hi x), .int .u64 (lo x)] 29)).alloc (.cells #[.int .i64 0, .slice none 0 0, .int .i64 0, .int .i64 0, .slice none 0 0] 26) := ⟨_, rfl⟩
  have hb0 : Below w.heap.size w W0 := by rw [hW0]; exact (((Below.refl w.heap.size w).alloc (by simp) _).alloc (by simp) _).alloc (by simp; omega) _
  have hz0 : w.heap.size + 3 ≤ W0.heap.size := by rw [hW0]; simp
  have q0 : W0.heap[w.heap.size]? = some (.cells #[.int .i64 e.table, .slice A n c, .int .i64 e.prio, .int .i64 e.action, .slice U m d] 26 (0, 0)) := by
    rw [hW0]
    exact ((grown_alloc _ _ none).block _ (by simp; omega) (by simp)).trans (((grown_alloc _ _ none).block _ (by simp) (by simp)).trans (heap_alloc_new _ _))
  have q1 : W0.heap[w.heap.size + 1]? = some (.cells #[.int .u64 (hi x), .int .u64 (lo x)] 29 (0, 0)) := by
    rw [hW0]
    refine ((grown_alloc _ _ none).block _ (by simp) (by simp)).trans ?_
    rw [show w.heap.size + 1 = (w.alloc (.cells #[.int .i64 e.table, .slice A n c, .int .i64 e.prio, .int .i64 e.action, .slice U m d] 26)).heap.size by simp]
    exact heap_alloc_new _ _
  have q2 : W0.heap[w.heap.size + 2]? = some (.cells #[.int .i64 0, .slice none 0 0, .int .i64 0, .int .i64 0, .slice none 0 0] 26 (0, 0)) := by
    rw [hW0]
    rw [show w.heap.size + 2 = ((w.alloc (.cells #[.int .i64 e.table, .slice A n c, .int .i64 e.prio, .int .i64 e.action, .slice U m d] 26)).alloc (.cells #[.int .u64 (hi x), .int .u64 (lo x)] 29)).heap.size by simp]
    exact heap_alloc_new _ _
  have HW0 := Lib.hid hW0
  have HB0 := Lib.hid hb0
  have HZ0 := Lib.hid hz0
  have HQ0 := Lib.hid q0
  have HQ1 := Lib.hid q1
  have HQ2 := Lib.hid q2
  clear hi0 hi1 hi2 hi3 hv0 hv1 hv2 hv3 h k ho1 ho2 hb0 hz0 q0 q1 q2 hW0 hx hq hB
  go_enter Try.func8, Try.ntmps8
  go_upto_region 1 with fail
  rw [← HW0.out]
  go_cut [] from 12 (fun wx => ∃ v1 v2, BtS w wx x e.table e.prio e.action v1 v2 n m (flat matchCells e.ms) (flat (fun u => [.int .u64 (hi u), .int .u64 (lo u)]) e.args))
  case first =>
    refine wp_region_S slB (BrI w e.table e.prio e.action (.slice A n c) (.slice U m d) x n m (flat matchCells e.ms) (flat (fun u => [.int .u64 (hi u), .int .u64 (lo u)]) e.args)) (by kernel_rfl) ?_ ?_ ?_ ?_
    · simp [setS, slB]
    · exact BrI.begun HB0.out HZ0.out HQ0.out HQ1.out HQ2.out
    · intro listed w1 v i hJ hrd
      obtain ⟨hlt2, hun⟩ := ready_subN hrd
      have hlt3 : i < 12 := hlt2
      clear hlt2
      match i, hlt3 with
      | 0, _ =>
        refine wpOp_step rfl (fun K' hK => ?_)
        simp only [setS, slB, List.setIfInBounds_toArray, List.set_cons_succ, List.set_cons_zero]
        have HH := Lib.hid hK
        clear hK hrd
        go_simp
        refine HH.out _ _ ⟨updv v 12 (.slice (some ⟨w1.heap.size, 0, none⟩) 0 0), by simp [setS, slB, updv], hJ.a0⟩
      | 1, _ =>
        refine wpOp_step rfl (fun K' hK => ?_)
        simp only [setS, slB, List.setIfInBounds_toArray, List.set_cons_succ, List.set_cons_zero]
        have HH := Lib.hid hK
        clear hK hrd
        go_simp
        refine HH.out _ _ ⟨updv v 13 (.pointer (some ⟨w.heap.size, 1, none⟩)), by simp [setS, slB, updv], hJ.c1⟩
      | 2, _ =>
        have e1 : v 13 = .pointer (some ⟨w.heap.size, 1, none⟩) := hJ.k1 (ready_depN hrd rfl (e := ⟨1, .data⟩) (by simp) rfl)
        have hl9 : listed.getD 9 false = false := by
          cases hq : listed.getD 9 false with
          | false => rfl
          | true => exact absurd (hJ.c3 (hJ.c9 hq)) (by rw [unl hJ.size (by decide) hun]; simp)
        have hbe := hJ.be
        rw [hl9] at hbe
        have s1 : w1.cell? ⟨w.heap.size, 1, none⟩ = some (.slice A n c) := blk_cell hbe 1 _ rfl
        clear hbe
        refine wpOp_step rfl (fun K' hK => ?_)
        simp only [setS, slB, List.setIfInBounds_toArray, List.set_cons_succ, List.set_cons_zero]
        have HH := Lib.hid hK
        rw [e1]
        clear hK hrd
        go_simp
        refine HH.out _ _ ⟨updv v 14 (.slice A n c), by simp [setS, slB, updv, e1], hJ.c2⟩
      | 3, _ =>
        have d0 : listed.getD 0 false = true := ready_depN hrd rfl (e := ⟨0, .data⟩) (by simp) rfl
        have d2 : listed.getD 2 false = true := ready_depN hrd rfl (e := ⟨2, .data⟩) (by simp) rfl
        have e2 : v 14 = .slice A n c := hJ.k2 d2
        have hr := hJ.r0 d0 (unl hJ.size (by decide) hun)
        have hl9 : listed.getD 9 false = false := by
          cases hq : listed.getD 9 false with
          | false => rfl
          | true => exact absurd (hJ.c9 hq) (by rw [unl hJ.size (by decide) hun]; simp)
        refine wpOp_step rfl (fun K' hK => ?_)
        simp only [setS, slB, List.setIfInBounds_toArray, List.set_cons_succ, List.set_cons_zero]
        have HH := Lib.hid hK
        rw [e2]
        clear hK hrd
        rw [if_pos (by rfl)]
        refine step_appB (.tmp 12) (.tmp 14) 23 (by rfl) (w.heap.size + 3) 75 i0 _ 8 64 Try.underlying23 HI0.out HI1.out HI2.out HI3.out rfl (by decide) (v 12) 0 [] (by rfl) hr A n c (flat matchCells e.ms) (by rfl) HL1.out (HS1.out w1 hJ.bl) HO1.out (by unfold maxLen; omega) (by omega) hJ.sz ?_
        intro v' w' hO hg _
        rw [Nat.zero_add, List.nil_append] at hO
        refine HH.out _ _ ⟨updv v 15 v', by simp [setS, slB, updv, Act.put, e2], hJ.p3 hr hO hg hl9 d2⟩
      | 4, _ =>
        refine wpOp_step rfl (fun K' hK => ?_)
        simp only [setS, slB, List.setIfInBounds_toArray, List.set_cons_succ, List.set_cons_zero]
        have HH := Lib.hid hK
        clear hK hrd
        go_simp
        refine HH.out _ _ ⟨updv v 16 (.slice (some ⟨w1.heap.size, 0, none⟩) 0 0), by simp [setS, slB, updv], hJ.a4⟩
      | 5, _ =>
        refine wpOp_step rfl (fun K' hK => ?_)
        simp only [setS, slB, List.setIfInBounds_toArray, List.set_cons_succ, List.set_cons_zero]
        have HH := Lib.hid hK
        clear hK hrd
        go_simp
        refine HH.out _ _ ⟨updv v 17 (.pointer (some ⟨w.heap.size, 4, none⟩)), by simp [setS, slB, updv], hJ.c5⟩
      | 6, _ =>
        have e1 : v 17 = .pointer (some ⟨w.heap.size, 4, none⟩) := hJ.k5 (ready_depN hrd rfl (e := ⟨5, .data⟩) (by simp) rfl)
        have hl11 : listed.getD 11 false = false := by
          cases hq : listed.getD 11 false with
          | false => rfl
          | true => exact absurd (hJ.c7 (hJ.c11 hq)) (by rw [unl hJ.size (by decide) hun]; simp)
        have hbe := hJ.be
        rw [hl11] at hbe
        have s1 : w1.cell? ⟨w.heap.size, 4, none⟩ = some (.slice U m d) := blk_cell hbe 4 _ rfl
        clear hbe
        refine wpOp_step rfl (fun K' hK => ?_)
        simp only [setS, slB, List.setIfInBounds_toArray, List.set_cons_succ, List.set_cons_zero]
        have HH := Lib.hid hK
        rw [e1]
        clear hK hrd
        go_simp
        refine HH.out _ _ ⟨updv v 18 (.slice U m d), by simp [setS, slB, updv, e1], hJ.c6⟩
      | 7, _ =>
        have d0 : listed.getD 4 false = true := ready_depN hrd rfl (e := ⟨4, .data⟩) (by simp) rfl
        have d2 : listed.getD 6 false = true := ready_depN hrd rfl (e := ⟨6, .data⟩) (by simp) rfl
        have e2 : v 18 = .slice U m d := hJ.k6 d2
        have hr := hJ.r4 d0 (unl hJ.size (by decide) hun)
        have hl11 : listed.getD 11 false = false := by
          cases hq : listed.getD 11 false with
          | false => rfl
          | true => exact absurd (hJ.c11 hq) (by rw [unl hJ.size (by decide) hun]; simp)
        refine wpOp_step rfl (fun K' hK => ?_)
        simp only [setS, slB, List.setIfInBounds_toArray, List.set_cons_succ, List.set_cons_zero]
        have HH := Lib.hid hK
        rw [e2]
        clear hK hrd
        rw [if_pos (by rfl)]
        refine step_appB (.tmp 16) (.tmp 18) 24 (by rfl) (w.heap.size + 3) 29 i1 _ 2 16 Try.underlying24 HV0.out HV1.out HV2.out HV3.out rfl (by decide) (v 16) 0 [] (by rfl) hr U m d (flat (fun u => [.int .u64 (hi u), .int .u64 (lo u)]) e.args) (by rfl) HL2.out (HS2.out w1 hJ.bl) HO2.out (by unfold maxLen; omega) (by omega) hJ.sz ?_
        intro v' w' hO hg _
        rw [Nat.zero_add, List.nil_append] at hO
        refine HH.out _ _ ⟨updv v 19 v', by simp [setS, slB, updv, Act.put, e2], hJ.p7 hr hO hg hl11 d2⟩
      | 8, _ =>
        refine wpOp_step rfl (fun K' hK => ?_)
        simp only [setS, slB, List.setIfInBounds_toArray, List.set_cons_succ, List.set_cons_zero]
        have HH := Lib.hid hK
        clear hK hrd
        go_simp
        refine HH.out _ _ ⟨updv v 20 (.pointer (some ⟨w.heap.size, 1, none⟩)), by simp [setS, slB, updv], hJ.c8⟩
      | 9, _ =>
        have e8 : v 20 = .pointer (some ⟨w.heap.size, 1, none⟩) := hJ.k8 (ready_depN hrd rfl (e := ⟨8, .data⟩) (by simp) rfl)
        have d3 : listed.getD 3 false = true := ready_depN hrd rfl (e := ⟨3, .data⟩) (by simp) rfl
        obtain ⟨A3, c3, e3, -⟩ := own_shapeB (hJ.r3 d3)
        have hs := hJ.s9 d3
        rw [e3] at hs
        have s1 : w1.cell? ⟨w.heap.size, 1, none⟩ = some _ := blk_cell hJ.be 1 _ rfl
        have s2 : w1.frozen? ⟨w.heap.size, 1, none⟩ = false := blk_froz hJ.be 1
        refine wpOp_step rfl (fun K' hK => ?_)
        simp only [setS, slB, List.setIfInBounds_toArray, List.set_cons_succ, List.set_cons_zero]
        have HH := Lib.hid hK
        rw [e8, e3]
        clear hK hrd
        go_simp
        refine HH.out _ _ ⟨v, by simp [setS, slB, e8, e3], hs⟩
      | 10, _ =>
        refine wpOp_step rfl (fun K' hK => ?_)
        simp only [setS, slB, List.setIfInBounds_toArray, List.set_cons_succ, List.set_cons_zero]
        have HH := Lib.hid hK
        clear hK hrd
        go_simp
        refine HH.out _ _ ⟨updv v 21 (.pointer (some ⟨w.heap.size, 4, none⟩)), by simp [setS, slB, updv], hJ.c10⟩
      | 11, _ =>
        have e8 : v 21 = .pointer (some ⟨w.heap.size, 4, none⟩) := hJ.k10 (ready_depN hrd rfl (e := ⟨10, .data⟩) (by simp) rfl)
        have d3 : listed.getD 7 false = true := ready_depN hrd rfl (e := ⟨7, .data⟩) (by simp) rfl
        obtain ⟨A3, c3, e3, -⟩ := own_shapeB (hJ.r7 d3)
        have hs := hJ.s11 d3
        rw [e3] at hs
        have s1 : w1.cell? ⟨w.heap.size, 4, none⟩ = some _ := blk_cell hJ.be 4 _ rfl
        have s2 : w1.frozen? ⟨w.heap.size, 4, none⟩ = false := blk_froz hJ.be 4
        refine wpOp_step rfl (fun K' hK => ?_)
        simp only [setS, slB, List.setIfInBounds_toArray, List.set_cons_succ, List.set_cons_zero]
        have HH := Lib.hid hK
        rw [e8, e3]
        clear hK hrd
        go_simp
        refine HH.out _ _ ⟨v, by simp [setS, slB, e8, e3], hs⟩
      | _ + 12, h => exact absurd h (by omega)
    · intro listed w1 v hJ hr
      have hall := ready_allB (by kernel_rfl) hJ.size hr
      have hbe := hJ.be
      rw [hall 9 (by decide), hall 11 (by decide)] at hbe
      have hr1 := hJ.r3 (hall 3 (by decide))
      have hr2 := hJ.r7 (hall 7 (by decide))
      have hbl := hJ.bl
      have hbv := hJ.bv
      have hbr := hJ.br
      clear hall hr hJ
      simp only [setS, slB, List.setIfInBounds_toArray, List.set_cons_succ, List.set_cons_zero]
      go_wp2_with fail
      go_meet
      exact ⟨_, _, hbl, hbe, hbv, hbr, hr1, hr2, HG1.out, HG2.out, by omega, by omega⟩
  case rest =>
    obtain ⟨v1, v2, hcut⟩ := hcut
    obtain ⟨A1, c1, rfl, hA1, hnc1, hcm1⟩ := own_shapeB hcut.r1
    obtain ⟨A2, c2, rfl, hA2, hmc2, hdm2⟩ := own_shapeB hcut.r2
    obtain ⟨W1, hW1⟩ : ∃ W, W = wc.alloc (.cells #[.bool false, .int .u64 0, .int .u64 0, .int .u64 0, .int .u64 0, .int .i64 0, .int .u64 0, .int .u64 0] 75) := ⟨_, rfl⟩
    have hb1 : Below wc.heap.size wc W1 := by rw [hW1]; exact (Below.refl _ _).alloc (Nat.le_refl _) _
    have qN : W1.heap[wc.heap.size]? = some (.cells #[.bool false, .int .u64 0, .int .u64 0, .int .u64 0, .int .u64 0, .int .i64 0, .int .u64 0, .int .u64 0] 75 (0, 0)) := by rw [hW1]; exact heap_alloc_new _ _
    have HC1 := Lib.hid (hcut.keep hb1)
    have hwz : w.heap.size + 2 < wc.heap.size := (Array.getElem?_eq_some_iff.1 hcut.br).1
    have PN : Hid (PtS w W1 (.slice A1 n c1) (.slice A2 m c2) n wc.heap.size 0) := Lib.hid ⟨rfl, by omega, (by
        cases hq2 : (Value.slice A2 m c2).ownBlock with
        | none => exact .inl rfl
        | some g => exact .inr (fun e => by injection e with e; have := (World.ownsRow.lt hcut.r2 g hq2).2; omega)), (fun j hj => by
          match j, hj with
          | 0, _ => exact ⟨_, blk_cell qN 0 _ rfl, false, rfl⟩
          | 1, _ => exact ⟨_, blk_cell qN 1 _ rfl, 0, rfl, by decide⟩
          | 2, _ => exact ⟨_, blk_cell qN 2 _ rfl, 0, rfl, by decide⟩
          | 3, _ => exact ⟨_, blk_cell qN 3 _ rfl, 0, rfl, by decide⟩
          | 4, _ => exact ⟨_, blk_cell qN 4 _ rfl, 0, rfl, by decide⟩
          | 5, _ => exact ⟨_, blk_cell qN 5 _ rfl, 0, rfl, by unfold I64; omega⟩
          | 6, _ => exact ⟨_, blk_cell qN 6 _ rfl, 0, rfl, by decide⟩
          | 7, _ => exact ⟨_, blk_cell qN 7 _ rfl, 0, rfl, by decide⟩), (fun j => blk_froz qN j), .inl (by
        cases hq1 : (Value.slice A1 n c1).ownBlock with
        | none => exact .inl rfl
        | some g => exact .inr (fun e => by injection e with e; have := (World.ownsRow.lt hcut.r1 g hq1).2; omega))⟩
    have HW1 := Lib.hid hW1
    have s1 : W1.cell? ⟨w.heap.size, 1, none⟩ = some (.slice A1 n c1) := blk_cell HC1.out.be 1 _ rfl
    have KM : Hid (0 < n → ∃ r : Nat → World → Int → Nat, ∀ (z : Int) W, Calls Try.prog 22 #[.int .i64 z, .int .i64 (n : Int)] W fun en w' => ∃ r : Nat, r < n ∧ en = .returned (.int .i64 (r : Int)) ∧ w' = W) := Lib.hid fun h0 => ⟨fun _ _ _ => 0, fun z W => (cs_modB z n h0 (by omega) W).mono fun en w' h => by
      obtain ⟨b1, b2⟩ := modI_b z n h0
      exact ⟨(modI z n).toNat, by omega, by rw [h.1]; congr 2; omega, h.2⟩⟩
    clear hb1 qN hW1 hcut
    go_upto_region 4 with fail
    rw [← HW1.out]
    go_upto_if 25 with fail
    go_cut [10] from 12 (fun v10 wx => ∃ b o, v10 = .pointer (some ⟨b, o, none⟩) ∧ Below W1.heap.size W1 wx ∧ PtS w wx (.slice A1 n c1) (.slice A2 m c2) n b o)
    case first =>
      rcases Nat.eq_zero_or_pos n with h0 | h0
      · have j0 : decide ((0 : Int) < (n : Int)) = false := decide_eq_false (by omega)
        have j1 : ¬ (0 : Int) < (n : Int) := by omega
        clear h0
        go_wp2_with fail
        go_meet
        exact ⟨_, _, rfl, Below.refl _ _, PN.out⟩
      · have j0 : decide ((0 : Int) < (n : Int)) = true := decide_eq_true (by omega)
        have j1 : (0 : Int) < (n : Int) := by omega
        obtain ⟨g, rfl⟩ := hA1 h0
        obtain ⟨_, KN⟩ := KM.out h0
        have HKN := Lib.hid KN
        clear KN
        go_upto_region 5 with fail
        have HKS : Hid (∀ w', Below W1.heap.size W1 w' → Below W1.heap.size W1 w' ∧ w'.cell? ⟨w.heap.size, 1, none⟩ = some (.slice (some ⟨g, 0, none⟩) n c1)) := Lib.hid fun w' hb => ⟨hb, (World.cell?_of_block (hb.block _ (by have := (Array.getElem?_eq_some_iff.1 HC1.out.be).1; omega))).trans s1⟩
        go_region_held3 (fun w' => Below W1.heap.size W1 w' ∧ w'.cell? ⟨w.heap.size, 1, none⟩ = some (.slice (some ⟨g, 0, none⟩) n c1))
          (first
            | exact HKS.out _ (Below.drew (Below.refl _ _))
            | exact HKS.out _ (below_call (And.left (by assumption)) (by assumption))
            | assumption)
          (first
            | (go_at_call 22; (with_reducible refine (HKN.out _ _).mono ?_); rintro en u0 ⟨r, hr, rfl, rfl⟩; have hr1 : (r : Int) < (n : Int) := (by omega); have hr2 : (r : Int) < (c1 : Int) := (by omega)))
        all_goals go_wp2_with fail
        all_goals go_meet
        all_goals exact ⟨_, _, rfl, Below.drew (Below.refl _ _), (PtS.row HC1.out r hr).keep (Below.drew (Below.refl _ _))⟩
    case rest =>
      obtain ⟨b, o, rfl, hbl, hpt⟩ := hcut
      have HC2 := Lib.hid (HC1.out.keep hbl)
      have HP2 := Lib.hid hpt
      have hwz2 : w.heap.size + 2 < wc.heap.size := (Array.getElem?_eq_some_iff.1 HC2.out.br).1
      obtain ⟨z, hz0, hz14, hzm⟩ : ∃ z : Int, 0 ≤ z ∧ z < 14 ∧ modI which 14 = z := ⟨_, (modI_b which 14 (by decide)).1, (modI_b which 14 (by decide)).2, rfl⟩
      have KQ : Hid (∀ W, Calls Try.prog 22 #[.int .i64 which, .int .i64 14] W fun en w' => en = .returned (.int .i64 z) ∧ W = w') := Lib.hid fun W => by
        rw [← hzm]
        exact (cs_modB which 14 (by decide) (by decide) W).mono fun _ _ h => ⟨h.1, h.2.symm⟩
      have KO : Hid (∀ (k : Int) W, Calls Try.prog 26 #[.int .i64 k] W (RetV (ones k) W)) := Lib.hid fun k W => rones_any k W
      have KL : Hid (∀ (k : Int) W, Calls Try.prog 9 #[.agg #[.int .u64 (hi x), .int .u64 (lo x)], .int .i64 (bits .and .i64 k 31)] W (RetV (lowB x (bits .and .i64 k 31)) W)) := Lib.hid fun k W => cs_low x _ HX.out (and31 k) W
      clear s1 hzm
      have e0 := blk_cell HC2.out.be 0 _ rfl
      have fe0 := blk_froz HC2.out.be 0
      have y0 := blk_cell HC2.out.br 0 _ rfl
      have fy0 := blk_froz HC2.out.br 0
      have e1 := blk_cell HC2.out.be 1 _ rfl
      have fe1 := blk_froz HC2.out.be 1
      have y1 := blk_cell HC2.out.br 1 _ rfl
      have fy1 := blk_froz HC2.out.br 1
      have e2 := blk_cell HC2.out.be 2 _ rfl
      have fe2 := blk_froz HC2.out.be 2
      have y2 := blk_cell HC2.out.br 2 _ rfl
      have fy2 := blk_froz HC2.out.br 2
      have e3 := blk_cell HC2.out.be 3 _ rfl
      have fe3 := blk_froz HC2.out.be 3
      have y3 := blk_cell HC2.out.br 3 _ rfl
      have fy3 := blk_froz HC2.out.br 3
      have e4 := blk_cell HC2.out.be 4 _ rfl
      have fe4 := blk_froz HC2.out.be 4
      have y4 := blk_cell HC2.out.br 4 _ rfl
      have fy4 := blk_froz HC2.out.br 4
      have x0 := blk_cell HC2.out.bv 0 _ rfl
      have x1 := blk_cell HC2.out.bv 1 _ rfl
      obtain ⟨u0, p0, ⟨b0, rfl⟩⟩ := hpt.cl 0 (by decide)
      obtain ⟨u1, p1, -⟩ := hpt.cl 1 (by decide)
      obtain ⟨u2, p2, -⟩ := hpt.cl 2 (by decide)
      obtain ⟨u3, p3, -⟩ := hpt.cl 3 (by decide)
      obtain ⟨u4, p4, -⟩ := hpt.cl 4 (by decide)
      obtain ⟨u5, p5, -⟩ := hpt.cl 5 (by decide)
      obtain ⟨u6, p6, -⟩ := hpt.cl 6 (by decide)
      obtain ⟨u7, p7, -⟩ := hpt.cl 7 (by decide)
      have fp : ∀ j, wc.frozen? ⟨b, j, none⟩ = false := hpt.fz
      have ff0 := fp o
      have ff1 := fp (o + 1)
      have ff2 := fp (o + 2)
      have ff3 := fp (o + 3)
      have ff4 := fp (o + 4)
      have ff5 := fp (o + 5)
      have ff6 := fp (o + 6)
      have ff7 := fp (o + 7)
      rw [Nat.add_zero] at p0
      clear fp hpt hbl
      rcases (show z = 0 ∨ z = 1 ∨ z = 2 ∨ z = 3 ∨ z = 4 ∨ z = 5 ∨ z = 6 ∨ z = 7 ∨ z = 8 ∨ z = 9 ∨ z = 10 ∨ z = 11 ∨ z = 12 ∨ z = 13 by omega) with rfl | rfl | rfl | rfl | rfl | rfl | rfl | rfl | rfl | rfl | rfl | rfl | rfl | rfl
      · go_upto_region 38 with (first
          | (go_at_call 22; (with_reducible refine (KQ.out _).mono ?_); rintro en u0 ⟨rfl, rfl⟩)
          | (go_at_call 26; (with_reducible refine (KO.out _ _).mono ?_); rintro en w9 ⟨rfl, hb9⟩)
          | (go_at_call 9; (with_reducible refine (KL.out _ _).mono ?_); rintro en w9 ⟨rfl, hb9⟩))
        obtain ⟨W3, hW3⟩ : ∃ W, W = wc.setCell ⟨w.heap.size, 0, none⟩ (.int .i64 q) := ⟨_, rfl⟩
        have K3 : Hid (BtS w W3 x q e.prio e.action (.slice A1 n c1) (.slice A2 m c2) n m (flat matchCells e.ms) (flat (fun u => [.int .u64 (hi u), .int .u64 (lo u)]) e.args)) := Lib.hid (by rw [hW3]; exact HC2.out.set0 q)
        have HW3 := Lib.hid hW3
        clear hW3
        rw [← HW3.out]
        have y0 : W3.cell? ⟨w.heap.size + 1 + 1, 0, none⟩ = some _ := blk_cell K3.out.br 0 _ rfl
        have fy0 : W3.frozen? ⟨w.heap.size + 1 + 1, 0, none⟩ = false := blk_froz K3.out.br 0
        have e0 := blk_cell K3.out.be 0 _ rfl
        have y1 : W3.cell? ⟨w.heap.size + 1 + 1, 1, none⟩ = some _ := blk_cell K3.out.br 1 _ rfl
        have fy1 : W3.frozen? ⟨w.heap.size + 1 + 1, 1, none⟩ = false := blk_froz K3.out.br 1
        have e1 := blk_cell K3.out.be 1 _ rfl
        have y2 : W3.cell? ⟨w.heap.size + 1 + 1, 2, none⟩ = some _ := blk_cell K3.out.br 2 _ rfl
        have fy2 : W3.frozen? ⟨w.heap.size + 1 + 1, 2, none⟩ = false := blk_froz K3.out.br 2
        have e2 := blk_cell K3.out.be 2 _ rfl
        have y3 : W3.cell? ⟨w.heap.size + 1 + 1, 3, none⟩ = some _ := blk_cell K3.out.br 3 _ rfl
        have fy3 : W3.frozen? ⟨w.heap.size + 1 + 1, 3, none⟩ = false := blk_froz K3.out.br 3
        have e3 := blk_cell K3.out.be 3 _ rfl
        have y4 : W3.cell? ⟨w.heap.size + 1 + 1, 4, none⟩ = some _ := blk_cell K3.out.br 4 _ rfl
        have fy4 : W3.frozen? ⟨w.heap.size + 1 + 1, 4, none⟩ = false := blk_froz K3.out.br 4
        have e4 := blk_cell K3.out.be 4 _ rfl
        clear HW3
        go_wp2_with fail
        have q5 := blk_set5 (k := w.heap.size + 1 + 1) K3.out.br (.int .i64 q) (.slice A1 n c1) (.int .i64 e.prio) (.int .i64 e.action) (.slice A2 m c2)
        have q0 := blk_cell q5 0 _ rfl
        have q1 := blk_cell q5 1 _ rfl
        have q2 := blk_cell q5 2 _ rfl
        have q3 := blk_cell q5 3 _ rfl
        have q4 := blk_cell q5 4 _ rfl
        refine bodyPost_ret (v := .agg #[.int .i64 q, (.slice A1 n c1), .int .i64 e.prio, .int .i64 e.action, (.slice A2 m c2)]) (by simp [results, Try.results8, go_sem, q0, q1, q2, q3, q4]) rfl ?_
        exact bent_end K3.out _ _ _ _ _
      · go_upto_region 38 with (first
          | (go_at_call 22; (with_reducible refine (KQ.out _).mono ?_); rintro en u0 ⟨rfl, rfl⟩)
          | (go_at_call 26; (with_reducible refine (KO.out _ _).mono ?_); rintro en w9 ⟨rfl, hb9⟩)
          | (go_at_call 9; (with_reducible refine (KL.out _ _).mono ?_); rintro en w9 ⟨rfl, hb9⟩))
        obtain ⟨W3, hW3⟩ : ∃ W, W = wc.setCell ⟨w.heap.size, 2, none⟩ (.int .i64 q) := ⟨_, rfl⟩
        have K3 : Hid (BtS w W3 x e.table q e.action (.slice A1 n c1) (.slice A2 m c2) n m (flat matchCells e.ms) (flat (fun u => [.int .u64 (hi u), .int .u64 (lo u)]) e.args)) := Lib.hid (by rw [hW3]; exact HC2.out.set2 q)
        have HW3 := Lib.hid hW3
        clear hW3
        rw [← HW3.out]
        have y0 : W3.cell? ⟨w.heap.size + 1 + 1, 0, none⟩ = some _ := blk_cell K3.out.br 0 _ rfl
        have fy0 : W3.frozen? ⟨w.heap.size + 1 + 1, 0, none⟩ = false := blk_froz K3.out.br 0
        have e0 := blk_cell K3.out.be 0 _ rfl
        have y1 : W3.cell? ⟨w.heap.size + 1 + 1, 1, none⟩ = some _ := blk_cell K3.out.br 1 _ rfl
        have fy1 : W3.frozen? ⟨w.heap.size + 1 + 1, 1, none⟩ = false := blk_froz K3.out.br 1
        have e1 := blk_cell K3.out.be 1 _ rfl
        have y2 : W3.cell? ⟨w.heap.size + 1 + 1, 2, none⟩ = some _ := blk_cell K3.out.br 2 _ rfl
        have fy2 : W3.frozen? ⟨w.heap.size + 1 + 1, 2, none⟩ = false := blk_froz K3.out.br 2
        have e2 := blk_cell K3.out.be 2 _ rfl
        have y3 : W3.cell? ⟨w.heap.size + 1 + 1, 3, none⟩ = some _ := blk_cell K3.out.br 3 _ rfl
        have fy3 : W3.frozen? ⟨w.heap.size + 1 + 1, 3, none⟩ = false := blk_froz K3.out.br 3
        have e3 := blk_cell K3.out.be 3 _ rfl
        have y4 : W3.cell? ⟨w.heap.size + 1 + 1, 4, none⟩ = some _ := blk_cell K3.out.br 4 _ rfl
        have fy4 : W3.frozen? ⟨w.heap.size + 1 + 1, 4, none⟩ = false := blk_froz K3.out.br 4
        have e4 := blk_cell K3.out.be 4 _ rfl
        clear HW3
        go_wp2_with fail
        have q5 := blk_set5 (k := w.heap.size + 1 + 1) K3.out.br (.int .i64 e.table) (.slice A1 n c1) (.int .i64 q) (.int .i64 e.action) (.slice A2 m c2)
        have q0 := blk_cell q5 0 _ rfl
        have q1 := blk_cell q5 1 _ rfl
        have q2 := blk_cell q5 2 _ rfl
        have q3 := blk_cell q5 3 _ rfl
        have q4 := blk_cell q5 4 _ rfl
        refine bodyPost_ret (v := .agg #[.int .i64 e.table, (.slice A1 n c1), .int .i64 q, .int .i64 e.action, (.slice A2 m c2)]) (by simp [results, Try.results8, go_sem, q0, q1, q2, q3, q4]) rfl ?_
        exact bent_end K3.out _ _ _ _ _
      · go_upto_region 38 with (first
          | (go_at_call 22; (with_reducible refine (KQ.out _).mono ?_); rintro en u0 ⟨rfl, rfl⟩)
          | (go_at_call 26; (with_reducible refine (KO.out _ _).mono ?_); rintro en w9 ⟨rfl, hb9⟩)
          | (go_at_call 9; (with_reducible refine (KL.out _ _).mono ?_); rintro en w9 ⟨rfl, hb9⟩))
        obtain ⟨W3, hW3⟩ : ∃ W, W = wc.setCell ⟨w.heap.size, 3, none⟩ (.int .i64 q) := ⟨_, rfl⟩
        have K3 : Hid (BtS w W3 x e.table e.prio q (.slice A1 n c1) (.slice A2 m c2) n m (flat matchCells e.ms) (flat (fun u => [.int .u64 (hi u), .int .u64 (lo u)]) e.args)) := Lib.hid (by rw [hW3]; exact HC2.out.set3 q)
        have HW3 := Lib.hid hW3
        clear hW3
        rw [← HW3.out]
        have y0 : W3.cell? ⟨w.heap.size + 1 + 1, 0, none⟩ = some _ := blk_cell K3.out.br 0 _ rfl
        have fy0 : W3.frozen? ⟨w.heap.size + 1 + 1, 0, none⟩ = false := blk_froz K3.out.br 0
        have e0 := blk_cell K3.out.be 0 _ rfl
        have y1 : W3.cell? ⟨w.heap.size + 1 + 1, 1, none⟩ = some _ := blk_cell K3.out.br 1 _ rfl
        have fy1 : W3.frozen? ⟨w.heap.size + 1 + 1, 1, none⟩ = false := blk_froz K3.out.br 1
        have e1 := blk_cell K3.out.be 1 _ rfl
        have y2 : W3.cell? ⟨w.heap.size + 1 + 1, 2, none⟩ = some _ := blk_cell K3.out.br 2 _ rfl
        have fy2 : W3.frozen? ⟨w.heap.size + 1 + 1, 2, none⟩ = false := blk_froz K3.out.br 2
        have e2 := blk_cell K3.out.be 2 _ rfl
        have y3 : W3.cell? ⟨w.heap.size + 1 + 1, 3, none⟩ = some _ := blk_cell K3.out.br 3 _ rfl
        have fy3 : W3.frozen? ⟨w.heap.size + 1 + 1, 3, none⟩ = false := blk_froz K3.out.br 3
        have e3 := blk_cell K3.out.be 3 _ rfl
        have y4 : W3.cell? ⟨w.heap.size + 1 + 1, 4, none⟩ = some _ := blk_cell K3.out.br 4 _ rfl
        have fy4 : W3.frozen? ⟨w.heap.size + 1 + 1, 4, none⟩ = false := blk_froz K3.out.br 4
        have e4 := blk_cell K3.out.be 4 _ rfl
        clear HW3
        go_wp2_with fail
        have q5 := blk_set5 (k := w.heap.size + 1 + 1) K3.out.br (.int .i64 e.table) (.slice A1 n c1) (.int .i64 e.prio) (.int .i64 q) (.slice A2 m c2)
        have q0 := blk_cell q5 0 _ rfl
        have q1 := blk_cell q5 1 _ rfl
        have q2 := blk_cell q5 2 _ rfl
        have q3 := blk_cell q5 3 _ rfl
        have q4 := blk_cell q5 4 _ rfl
        refine bodyPost_ret (v := .agg #[.int .i64 e.table, (.slice A1 n c1), .int .i64 e.prio, .int .i64 q, (.slice A2 m c2)]) (by simp [results, Try.results8, go_sem, q0, q1, q2, q3, q4]) rfl ?_
        exact bent_end K3.out _ _ _ _ _
      · go_upto_region 38 with (first
          | (at_builtin; go_loud (refine wpList_append_own _ rfl (.tmp 59) (.tmp 61) 24 rfl (w.heap.size + 3) 29 i1 _ 2 16 Try.underlying24 HV0.out HV1.out HV2.out HV3.out rfl (by decide) _ m _ rfl (World.ownsRow.alloc HC2.out.r2 _) ⟨wc.heap.size, 0, none⟩ 1 1 [.int .u64 (hi x), .int .u64 (lo x)] rfl rfl (World.news_of_block (cs := #[.int .u64 (hi x), .int .u64 (lo x)]) (t := 29) (fr := (0, 0)) (heap_alloc_new wc _)) (by intro u hu; simp at hu; rcases hu with rfl | rfl <;> rfl) (by unfold maxLen; omega) (by omega) (by simp <;> omega) ?_; intro v4 w4 hO4 hg4 hn4; obtain ⟨A8, c8, rfl, -⟩ := own_shapeB hO4; have HK4 := Lib.hid ((HC2.out.keep ((Below.refl wc.heap.size wc).alloc (Nat.le_refl _) _)).app4 hg4 hO4 (good_v1 x HX.out) hm); have hw4 : w4.heap[w.heap.size]? = some _ := (hg4.block _ (by simp; omega) (fun e => by have := (World.ownsRow.lt HC2.out.r2 _ e.symm).1; omega)).trans (HC2.out.keep ((Below.refl wc.heap.size wc).alloc (Nat.le_refl _) _)).be; have m4 := blk_cell hw4 4 _ rfl; have f4 := blk_froz hw4 4; clear hO4 hg4 hn4 hw4))
          | (go_at_call 22; (with_reducible refine (KQ.out _).mono ?_); rintro en u0 ⟨rfl, rfl⟩)
          | (go_at_call 26; (with_reducible refine (KO.out _ _).mono ?_); rintro en w9 ⟨rfl, hb9⟩)
          | (go_at_call 9; (with_reducible refine (KL.out _ _).mono ?_); rintro en w9 ⟨rfl, hb9⟩))
        obtain ⟨W3, hW3⟩ : ∃ W, W = w4.setCell ⟨w.heap.size, 4, none⟩ (.slice A8 (m + 1) c8) := ⟨_, rfl⟩
        have K3 : Hid (BtS w W3 x e.table e.prio e.action (.slice A1 n c1) (.slice A8 (m + 1) c8) n (m + 1) (flat matchCells e.ms) ((flat (fun u => [.int .u64 (hi u), .int .u64 (lo u)]) e.args) ++ [.int .u64 (hi x), .int .u64 (lo x)])) := Lib.hid (by rw [hW3]; exact HK4.out)
        have HW3 := Lib.hid hW3
        clear hW3
        rw [← HW3.out]
        have y0 : W3.cell? ⟨w.heap.size + 1 + 1, 0, none⟩ = some _ := blk_cell K3.out.br 0 _ rfl
        have fy0 : W3.frozen? ⟨w.heap.size + 1 + 1, 0, none⟩ = false := blk_froz K3.out.br 0
        have e0 := blk_cell K3.out.be 0 _ rfl
        have y1 : W3.cell? ⟨w.heap.size + 1 + 1, 1, none⟩ = some _ := blk_cell K3.out.br 1 _ rfl
        have fy1 : W3.frozen? ⟨w.heap.size + 1 + 1, 1, none⟩ = false := blk_froz K3.out.br 1
        have e1 := blk_cell K3.out.be 1 _ rfl
        have y2 : W3.cell? ⟨w.heap.size + 1 + 1, 2, none⟩ = some _ := blk_cell K3.out.br 2 _ rfl
        have fy2 : W3.frozen? ⟨w.heap.size + 1 + 1, 2, none⟩ = false := blk_froz K3.out.br 2
        have e2 := blk_cell K3.out.be 2 _ rfl
        have y3 : W3.cell? ⟨w.heap.size + 1 + 1, 3, none⟩ = some _ := blk_cell K3.out.br 3 _ rfl
        have fy3 : W3.frozen? ⟨w.heap.size + 1 + 1, 3, none⟩ = false := blk_froz K3.out.br 3
        have e3 := blk_cell K3.out.be 3 _ rfl
        have y4 : W3.cell? ⟨w.heap.size + 1 + 1, 4, none⟩ = some _ := blk_cell K3.out.br 4 _ rfl
        have fy4 : W3.frozen? ⟨w.heap.size + 1 + 1, 4, none⟩ = false := blk_froz K3.out.br 4
        have e4 := blk_cell K3.out.be 4 _ rfl
        clear HW3
        go_wp2_with fail
        have q5 := blk_set5 (k := w.heap.size + 1 + 1) K3.out.br (.int .i64 e.table) (.slice A1 n c1) (.int .i64 e.prio) (.int .i64 e.action) (.slice A8 (m + 1) c8)
        have q0 := blk_cell q5 0 _ rfl
        have q1 := blk_cell q5 1 _ rfl
        have q2 := blk_cell q5 2 _ rfl
        have q3 := blk_cell q5 3 _ rfl
        have q4 := blk_cell q5 4 _ rfl
        refine bodyPost_ret (v := .agg #[.int .i64 e.table, (.slice A1 n c1), .int .i64 e.prio, .int .i64 e.action, (.slice A8 (m + 1) c8)]) (by simp [results, Try.results8, go_sem, q0, q1, q2, q3, q4]) rfl ?_
        exact bent_end K3.out _ _ _ _ _
      · go_upto_region 38 with (first
          | (at_builtin; go_loud (refine wpList_append_own _ rfl (.tmp 67) (.tmp 73) 23 rfl (w.heap.size + 3) 75 i0 _ 8 64 Try.underlying23 HI0.out HI1.out HI2.out HI3.out rfl (by decide) _ n _ rfl (World.ownsRow.alloc HC2.out.r1 _) ⟨wc.heap.size, 0, none⟩ 1 1 [.bool (bits .and .i64 q 1 == 1), .int .u64 (hi x), .int .u64 (lo x), .int .u64 0, .int .u64 0, .int .i64 0, .int .u64 0, .int .u64 0] rfl rfl (World.news_of_block (cs := #[.bool (bits .and .i64 q 1 == 1), .int .u64 (hi x), .int .u64 (lo x), .int .u64 0, .int .u64 0, .int .i64 0, .int .u64 0, .int .u64 0]) (t := 75) (fr := (0, 0)) (heap_alloc_new wc _)) (by intro u hu; simp at hu; rcases hu with rfl | rfl | rfl | rfl | rfl | rfl | rfl | rfl <;> rfl) (by unfold maxLen; omega) (by omega) (by simp <;> omega) ?_; intro v4 w4 hO4 hg4 hn4; obtain ⟨A8, c8, rfl, -⟩ := own_shapeB hO4; have HK4 := Lib.hid ((HC2.out.keep ((Below.refl wc.heap.size wc).alloc (Nat.le_refl _) _)).app1 hg4 hO4 (good_m1 _ x HX.out) hn); have hw4 : w4.heap[w.heap.size]? = some _ := (hg4.block _ (by simp; omega) (fun e => by have := (World.ownsRow.lt HC2.out.r1 _ e.symm).1; omega)).trans (HC2.out.keep ((Below.refl wc.heap.size wc).alloc (Nat.le_refl _) _)).be; have m4 := blk_cell hw4 1 _ rfl; have f4 := blk_froz hw4 1; clear hO4 hg4 hn4 hw4))
          | (go_at_call 22; (with_reducible refine (KQ.out _).mono ?_); rintro en u0 ⟨rfl, rfl⟩)
          | (go_at_call 26; (with_reducible refine (KO.out _ _).mono ?_); rintro en w9 ⟨rfl, hb9⟩)
          | (go_at_call 9; (with_reducible refine (KL.out _ _).mono ?_); rintro en w9 ⟨rfl, hb9⟩))
        obtain ⟨W3, hW3⟩ : ∃ W, W = w4.setCell ⟨w.heap.size, 1, none⟩ (.slice A8 (n + 1) c8) := ⟨_, rfl⟩
        have K3 : Hid (BtS w W3 x e.table e.prio e.action (.slice A8 (n + 1) c8) (.slice A2 m c2) (n + 1) m ((flat matchCells e.ms) ++ [.bool (bits .and .i64 q 1 == 1), .int .u64 (hi x), .int .u64 (lo x), .int .u64 0, .int .u64 0, .int .i64 0, .int .u64 0, .int .u64 0]) (flat (fun u => [.int .u64 (hi u), .int .u64 (lo u)]) e.args)) := Lib.hid (by rw [hW3]; exact HK4.out)
        have HW3 := Lib.hid hW3
        clear hW3
        rw [← HW3.out]
        have y0 : W3.cell? ⟨w.heap.size + 1 + 1, 0, none⟩ = some _ := blk_cell K3.out.br 0 _ rfl
        have fy0 : W3.frozen? ⟨w.heap.size + 1 + 1, 0, none⟩ = false := blk_froz K3.out.br 0
        have e0 := blk_cell K3.out.be 0 _ rfl
        have y1 : W3.cell? ⟨w.heap.size + 1 + 1, 1, none⟩ = some _ := blk_cell K3.out.br 1 _ rfl
        have fy1 : W3.frozen? ⟨w.heap.size + 1 + 1, 1, none⟩ = false := blk_froz K3.out.br 1
        have e1 := blk_cell K3.out.be 1 _ rfl
        have y2 : W3.cell? ⟨w.heap.size + 1 + 1, 2, none⟩ = some _ := blk_cell K3.out.br 2 _ rfl
        have fy2 : W3.frozen? ⟨w.heap.size + 1 + 1, 2, none⟩ = false := blk_froz K3.out.br 2
        have e2 := blk_cell K3.out.be 2 _ rfl
        have y3 : W3.cell? ⟨w.heap.size + 1 + 1, 3, none⟩ = some _ := blk_cell K3.out.br 3 _ rfl
        have fy3 : W3.frozen? ⟨w.heap.size + 1 + 1, 3, none⟩ = false := blk_froz K3.out.br 3
        have e3 := blk_cell K3.out.be 3 _ rfl
        have y4 : W3.cell? ⟨w.heap.size + 1 + 1, 4, none⟩ = some _ := blk_cell K3.out.br 4 _ rfl
        have fy4 : W3.frozen? ⟨w.heap.size + 1 + 1, 4, none⟩ = false := blk_froz K3.out.br 4
        have e4 := blk_cell K3.out.be 4 _ rfl
        clear HW3
        go_wp2_with fail
        have q5 := blk_set5 (k := w.heap.size + 1 + 1) K3.out.br (.int .i64 e.table) (.slice A8 (n + 1) c8) (.int .i64 e.prio) (.int .i64 e.action) (.slice A2 m c2)
        have q0 := blk_cell q5 0 _ rfl
        have q1 := blk_cell q5 1 _ rfl
        have q2 := blk_cell q5 2 _ rfl
        have q3 := blk_cell q5 3 _ rfl
        have q4 := blk_cell q5 4 _ rfl
        refine bodyPost_ret (v := .agg #[.int .i64 e.table, (.slice A8 (n + 1) c8), .int .i64 e.prio, .int .i64 e.action, (.slice A2 m c2)]) (by simp [results, Try.results8, go_sem, q0, q1, q2, q3, q4]) rfl ?_
        exact bent_end K3.out _ _ _ _ _
      · go_upto_region 38 with (first
          | (go_at_call 22; (with_reducible refine (KQ.out _).mono ?_); rintro en u0 ⟨rfl, rfl⟩)
          | (go_at_call 26; (with_reducible refine (KO.out _ _).mono ?_); rintro en w9 ⟨rfl, hb9⟩)
          | (go_at_call 9; (with_reducible refine (KL.out _ _).mono ?_); rintro en w9 ⟨rfl, hb9⟩))
        obtain ⟨xs1, k1, q1⟩ := HP2.out.put HC2.out 0 (by decide) (.bool (!b0)) ⟨_, rfl⟩
        obtain ⟨W3, hW3⟩ : ∃ W, W = (wc.setCell ⟨b, o, none⟩ (.bool (!b0))) := ⟨_, rfl⟩
        have K3 : Hid (BtS w W3 x e.table e.prio e.action (.slice A1 n c1) (.slice A2 m c2) n m xs1 (flat (fun u => [.int .u64 (hi u), .int .u64 (lo u)]) e.args)) := Lib.hid (by rw [hW3]; exact k1)
        have HW3 := Lib.hid hW3
        clear hW3
        rw [← HW3.out]
        have y0 : W3.cell? ⟨w.heap.size + 1 + 1, 0, none⟩ = some _ := blk_cell K3.out.br 0 _ rfl
        have fy0 : W3.frozen? ⟨w.heap.size + 1 + 1, 0, none⟩ = false := blk_froz K3.out.br 0
        have e0 := blk_cell K3.out.be 0 _ rfl
        have y1 : W3.cell? ⟨w.heap.size + 1 + 1, 1, none⟩ = some _ := blk_cell K3.out.br 1 _ rfl
        have fy1 : W3.frozen? ⟨w.heap.size + 1 + 1, 1, none⟩ = false := blk_froz K3.out.br 1
        have e1 := blk_cell K3.out.be 1 _ rfl
        have y2 : W3.cell? ⟨w.heap.size + 1 + 1, 2, none⟩ = some _ := blk_cell K3.out.br 2 _ rfl
        have fy2 : W3.frozen? ⟨w.heap.size + 1 + 1, 2, none⟩ = false := blk_froz K3.out.br 2
        have e2 := blk_cell K3.out.be 2 _ rfl
        have y3 : W3.cell? ⟨w.heap.size + 1 + 1, 3, none⟩ = some _ := blk_cell K3.out.br 3 _ rfl
        have fy3 : W3.frozen? ⟨w.heap.size + 1 + 1, 3, none⟩ = false := blk_froz K3.out.br 3
        have e3 := blk_cell K3.out.be 3 _ rfl
        have y4 : W3.cell? ⟨w.heap.size + 1 + 1, 4, none⟩ = some _ := blk_cell K3.out.br 4 _ rfl
        have fy4 : W3.frozen? ⟨w.heap.size + 1 + 1, 4, none⟩ = false := blk_froz K3.out.br 4
        have e4 := blk_cell K3.out.be 4 _ rfl
        clear HW3
        go_wp2_with fail
        have q5 := blk_set5 (k := w.heap.size + 1 + 1) K3.out.br (.int .i64 e.table) (.slice A1 n c1) (.int .i64 e.prio) (.int .i64 e.action) (.slice A2 m c2)
        have q0 := blk_cell q5 0 _ rfl
        have q1 := blk_cell q5 1 _ rfl
        have q2 := blk_cell q5 2 _ rfl
        have q3 := blk_cell q5 3 _ rfl
        have q4 := blk_cell q5 4 _ rfl
        refine bodyPost_ret (v := .agg #[.int .i64 e.table, (.slice A1 n c1), .int .i64 e.prio, .int .i64 e.action, (.slice A2 m c2)]) (by simp [results, Try.results8, go_sem, q0, q1, q2, q3, q4]) rfl ?_
        exact bent_end K3.out _ _ _ _ _
      · go_upto_region 38 with (first
          | (go_at_call 22; (with_reducible refine (KQ.out _).mono ?_); rintro en u0 ⟨rfl, rfl⟩)
          | (go_at_call 26; (with_reducible refine (KO.out _ _).mono ?_); rintro en w9 ⟨rfl, hb9⟩)
          | (go_at_call 9; (with_reducible refine (KL.out _ _).mono ?_); rintro en w9 ⟨rfl, hb9⟩))
        obtain ⟨xs1, k1, q1⟩ := HP2.out.put HC2.out 1 (by decide) (.int .u64 (hi x)) (mc_hl x (HX.out)).1
        obtain ⟨xs2, k2, q2⟩ := q1.put k1 2 (by decide) (.int .u64 (lo x)) (mc_hl x (HX.out)).2
        obtain ⟨W3, hW3⟩ : ∃ W, W = ((wc.setCell ⟨b, o + 1, none⟩ (.int .u64 (hi x))).setCell ⟨b, o + 1 + 1, none⟩ (.int .u64 (lo x))) := ⟨_, rfl⟩
        have K3 : Hid (BtS w W3 x e.table e.prio e.action (.slice A1 n c1) (.slice A2 m c2) n m xs2 (flat (fun u => [.int .u64 (hi u), .int .u64 (lo u)]) e.args)) := Lib.hid (by rw [hW3]; exact k2)
        have HW3 := Lib.hid hW3
        clear hW3
        rw [← HW3.out]
        have y0 : W3.cell? ⟨w.heap.size + 1 + 1, 0, none⟩ = some _ := blk_cell K3.out.br 0 _ rfl
        have fy0 : W3.frozen? ⟨w.heap.size + 1 + 1, 0, none⟩ = false := blk_froz K3.out.br 0
        have e0 := blk_cell K3.out.be 0 _ rfl
        have y1 : W3.cell? ⟨w.heap.size + 1 + 1, 1, none⟩ = some _ := blk_cell K3.out.br 1 _ rfl
        have fy1 : W3.frozen? ⟨w.heap.size + 1 + 1, 1, none⟩ = false := blk_froz K3.out.br 1
        have e1 := blk_cell K3.out.be 1 _ rfl
        have y2 : W3.cell? ⟨w.heap.size + 1 + 1, 2, none⟩ = some _ := blk_cell K3.out.br 2 _ rfl
        have fy2 : W3.frozen? ⟨w.heap.size + 1 + 1, 2, none⟩ = false := blk_froz K3.out.br 2
        have e2 := blk_cell K3.out.be 2 _ rfl
        have y3 : W3.cell? ⟨w.heap.size + 1 + 1, 3, none⟩ = some _ := blk_cell K3.out.br 3 _ rfl
        have fy3 : W3.frozen? ⟨w.heap.size + 1 + 1, 3, none⟩ = false := blk_froz K3.out.br 3
        have e3 := blk_cell K3.out.be 3 _ rfl
        have y4 : W3.cell? ⟨w.heap.size + 1 + 1, 4, none⟩ = some _ := blk_cell K3.out.br 4 _ rfl
        have fy4 : W3.frozen? ⟨w.heap.size + 1 + 1, 4, none⟩ = false := blk_froz K3.out.br 4
        have e4 := blk_cell K3.out.be 4 _ rfl
        clear HW3
        go_wp2_with fail
        have q5 := blk_set5 (k := w.heap.size + 1 + 1) K3.out.br (.int .i64 e.table) (.slice A1 n c1) (.int .i64 e.prio) (.int .i64 e.action) (.slice A2 m c2)
        have q0 := blk_cell q5 0 _ rfl
        have q1 := blk_cell q5 1 _ rfl
        have q2 := blk_cell q5 2 _ rfl
        have q3 := blk_cell q5 3 _ rfl
        have q4 := blk_cell q5 4 _ rfl
        refine bodyPost_ret (v := .agg #[.int .i64 e.table, (.slice A1 n c1), .int .i64 e.prio, .int .i64 e.action, (.slice A2 m c2)]) (by simp [results, Try.results8, go_sem, q0, q1, q2, q3, q4]) rfl ?_
        exact bent_end K3.out _ _ _ _ _
      · go_upto_region 38 with (first
          | (go_at_call 22; (with_reducible refine (KQ.out _).mono ?_); rintro en u0 ⟨rfl, rfl⟩)
          | (go_at_call 26; (with_reducible refine (KO.out _ _).mono ?_); rintro en w9 ⟨rfl, hb9⟩)
          | (go_at_call 9; (with_reducible refine (KL.out _ _).mono ?_); rintro en w9 ⟨rfl, hb9⟩))
        obtain ⟨xs1, k1, q1⟩ := HP2.out.put HC2.out 3 (by decide) (.int .u64 (hi x)) (mc_hl x (HX.out)).1
        obtain ⟨xs2, k2, q2⟩ := q1.put k1 4 (by decide) (.int .u64 (lo x)) (mc_hl x (HX.out)).2
        obtain ⟨W3, hW3⟩ : ∃ W, W = ((wc.setCell ⟨b, o + 3, none⟩ (.int .u64 (hi x))).setCell ⟨b, o + 3 + 1, none⟩ (.int .u64 (lo x))) := ⟨_, rfl⟩
        have K3 : Hid (BtS w W3 x e.table e.prio e.action (.slice A1 n c1) (.slice A2 m c2) n m xs2 (flat (fun u => [.int .u64 (hi u), .int .u64 (lo u)]) e.args)) := Lib.hid (by rw [hW3]; exact k2)
        have HW3 := Lib.hid hW3
        clear hW3
        rw [← HW3.out]
        have y0 : W3.cell? ⟨w.heap.size + 1 + 1, 0, none⟩ = some _ := blk_cell K3.out.br 0 _ rfl
        have fy0 : W3.frozen? ⟨w.heap.size + 1 + 1, 0, none⟩ = false := blk_froz K3.out.br 0
        have e0 := blk_cell K3.out.be 0 _ rfl
        have y1 : W3.cell? ⟨w.heap.size + 1 + 1, 1, none⟩ = some _ := blk_cell K3.out.br 1 _ rfl
        have fy1 : W3.frozen? ⟨w.heap.size + 1 + 1, 1, none⟩ = false := blk_froz K3.out.br 1
        have e1 := blk_cell K3.out.be 1 _ rfl
        have y2 : W3.cell? ⟨w.heap.size + 1 + 1, 2, none⟩ = some _ := blk_cell K3.out.br 2 _ rfl
        have fy2 : W3.frozen? ⟨w.heap.size + 1 + 1, 2, none⟩ = false := blk_froz K3.out.br 2
        have e2 := blk_cell K3.out.be 2 _ rfl
        have y3 : W3.cell? ⟨w.heap.size + 1 + 1, 3, none⟩ = some _ := blk_cell K3.out.br 3 _ rfl
        have fy3 : W3.frozen? ⟨w.heap.size + 1 + 1, 3, none⟩ = false := blk_froz K3.out.br 3
        have e3 := blk_cell K3.out.be 3 _ rfl
        have y4 : W3.cell? ⟨w.heap.size + 1 + 1, 4, none⟩ = some _ := blk_cell K3.out.br 4 _ rfl
        have fy4 : W3.frozen? ⟨w.heap.size + 1 + 1, 4, none⟩ = false := blk_froz K3.out.br 4
        have e4 := blk_cell K3.out.be 4 _ rfl
        clear HW3
        go_wp2_with fail
        have q5 := blk_set5 (k := w.heap.size + 1 + 1) K3.out.br (.int .i64 e.table) (.slice A1 n c1) (.int .i64 e.prio) (.int .i64 e.action) (.slice A2 m c2)
        have q0 := blk_cell q5 0 _ rfl
        have q1 := blk_cell q5 1 _ rfl
        have q2 := blk_cell q5 2 _ rfl
        have q3 := blk_cell q5 3 _ rfl
        have q4 := blk_cell q5 4 _ rfl
        refine bodyPost_ret (v := .agg #[.int .i64 e.table, (.slice A1 n c1), .int .i64 e.prio, .int .i64 e.action, (.slice A2 m c2)]) (by simp [results, Try.results8, go_sem, q0, q1, q2, q3, q4]) rfl ?_
        exact bent_end K3.out _ _ _ _ _
      · go_upto_region 38 with (first
          | (go_at_call 22; (with_reducible refine (KQ.out _).mono ?_); rintro en u0 ⟨rfl, rfl⟩)
          | (go_at_call 26; (with_reducible refine (KO.out _ _).mono ?_); rintro en w9 ⟨rfl, hb9⟩)
          | (go_at_call 9; (with_reducible refine (KL.out _ _).mono ?_); rintro en w9 ⟨rfl, hb9⟩))
        obtain ⟨xs1, k1, q1⟩ := HP2.out.put HC2.out 5 (by decide) (.int .i64 q) ⟨_, rfl, HQ.out⟩
        obtain ⟨W3, hW3⟩ : ∃ W, W = (wc.setCell ⟨b, o + 5, none⟩ (.int .i64 q)) := ⟨_, rfl⟩
        have K3 : Hid (BtS w W3 x e.table e.prio e.action (.slice A1 n c1) (.slice A2 m c2) n m xs1 (flat (fun u => [.int .u64 (hi u), .int .u64 (lo u)]) e.args)) := Lib.hid (by rw [hW3]; exact k1)
        have HW3 := Lib.hid hW3
        clear hW3
        rw [← HW3.out]
        have y0 : W3.cell? ⟨w.heap.size + 1 + 1, 0, none⟩ = some _ := blk_cell K3.out.br 0 _ rfl
        have fy0 : W3.frozen? ⟨w.heap.size + 1 + 1, 0, none⟩ = false := blk_froz K3.out.br 0
        have e0 := blk_cell K3.out.be 0 _ rfl
        have y1 : W3.cell? ⟨w.heap.size + 1 + 1, 1, none⟩ = some _ := blk_cell K3.out.br 1 _ rfl
        have fy1 : W3.frozen? ⟨w.heap.size + 1 + 1, 1, none⟩ = false := blk_froz K3.out.br 1
        have e1 := blk_cell K3.out.be 1 _ rfl
        have y2 : W3.cell? ⟨w.heap.size + 1 + 1, 2, none⟩ = some _ := blk_cell K3.out.br 2 _ rfl
        have fy2 : W3.frozen? ⟨w.heap.size + 1 + 1, 2, none⟩ = false := blk_froz K3.out.br 2
        have e2 := blk_cell K3.out.be 2 _ rfl
        have y3 : W3.cell? ⟨w.heap.size + 1 + 1, 3, none⟩ = some _ := blk_cell K3.out.br 3 _ rfl
        have fy3 : W3.frozen? ⟨w.heap.size + 1 + 1, 3, none⟩ = false := blk_froz K3.out.br 3
        have e3 := blk_cell K3.out.be 3 _ rfl
        have y4 : W3.cell? ⟨w.heap.size + 1 + 1, 4, none⟩ = some _ := blk_cell K3.out.br 4 _ rfl
        have fy4 : W3.frozen? ⟨w.heap.size + 1 + 1, 4, none⟩ = false := blk_froz K3.out.br 4
        have e4 := blk_cell K3.out.be 4 _ rfl
        clear HW3
        go_wp2_with fail
        have q5 := blk_set5 (k := w.heap.size + 1 + 1) K3.out.br (.int .i64 e.table) (.slice A1 n c1) (.int .i64 e.prio) (.int .i64 e.action) (.slice A2 m c2)
        have q0 := blk_cell q5 0 _ rfl
        have q1 := blk_cell q5 1 _ rfl
        have q2 := blk_cell q5 2 _ rfl
        have q3 := blk_cell q5 3 _ rfl
        have q4 := blk_cell q5 4 _ rfl
        refine bodyPost_ret (v := .agg #[.int .i64 e.table, (.slice A1 n c1), .int .i64 e.prio, .int .i64 e.action, (.slice A2 m c2)]) (by simp [results, Try.results8, go_sem, q0, q1, q2, q3, q4]) rfl ?_
        exact bent_end K3.out _ _ _ _ _
      · go_upto_region 38 with (first
          | (go_at_call 22; (with_reducible refine (KQ.out _).mono ?_); rintro en u0 ⟨rfl, rfl⟩)
          | (go_at_call 26; (with_reducible refine (KO.out _ _).mono ?_); rintro en w9 ⟨rfl, hb9⟩)
          | (go_at_call 9; (with_reducible refine (KL.out _ _).mono ?_); rintro en w9 ⟨rfl, hb9⟩))
        obtain ⟨xs1, k1, q1⟩ := HP2.out.put HC2.out 6 (by decide) (.int .u64 (hi x)) (mc_hl x (HX.out)).1
        obtain ⟨xs2, k2, q2⟩ := q1.put k1 7 (by decide) (.int .u64 (lo x)) (mc_hl x (HX.out)).2
        obtain ⟨W3, hW3⟩ : ∃ W, W = ((wc.setCell ⟨b, o + 6, none⟩ (.int .u64 (hi x))).setCell ⟨b, o + 6 + 1, none⟩ (.int .u64 (lo x))) := ⟨_, rfl⟩
        have K3 : Hid (BtS w W3 x e.table e.prio e.action (.slice A1 n c1) (.slice A2 m c2) n m xs2 (flat (fun u => [.int .u64 (hi u), .int .u64 (lo u)]) e.args)) := Lib.hid (by rw [hW3]; exact k2)
        have HW3 := Lib.hid hW3
        clear hW3
        rw [← HW3.out]
        have y0 : W3.cell? ⟨w.heap.size + 1 + 1, 0, none⟩ = some _ := blk_cell K3.out.br 0 _ rfl
        have fy0 : W3.frozen? ⟨w.heap.size + 1 + 1, 0, none⟩ = false := blk_froz K3.out.br 0
        have e0 := blk_cell K3.out.be 0 _ rfl
        have y1 : W3.cell? ⟨w.heap.size + 1 + 1, 1, none⟩ = some _ := blk_cell K3.out.br 1 _ rfl
        have fy1 : W3.frozen? ⟨w.heap.size + 1 + 1, 1, none⟩ = false := blk_froz K3.out.br 1
        have e1 := blk_cell K3.out.be 1 _ rfl
        have y2 : W3.cell? ⟨w.heap.size + 1 + 1, 2, none⟩ = some _ := blk_cell K3.out.br 2 _ rfl
        have fy2 : W3.frozen? ⟨w.heap.size + 1 + 1, 2, none⟩ = false := blk_froz K3.out.br 2
        have e2 := blk_cell K3.out.be 2 _ rfl
        have y3 : W3.cell? ⟨w.heap.size + 1 + 1, 3, none⟩ = some _ := blk_cell K3.out.br 3 _ rfl
        have fy3 : W3.frozen? ⟨w.heap.size + 1 + 1, 3, none⟩ = false := blk_froz K3.out.br 3
        have e3 := blk_cell K3.out.be 3 _ rfl
        have y4 : W3.cell? ⟨w.heap.size + 1 + 1, 4, none⟩ = some _ := blk_cell K3.out.br 4 _ rfl
        have fy4 : W3.frozen? ⟨w.heap.size + 1 + 1, 4, none⟩ = false := blk_froz K3.out.br 4
        have e4 := blk_cell K3.out.be 4 _ rfl
        clear HW3
        go_wp2_with fail
        have q5 := blk_set5 (k := w.heap.size + 1 + 1) K3.out.br (.int .i64 e.table) (.slice A1 n c1) (.int .i64 e.prio) (.int .i64 e.action) (.slice A2 m c2)
        have q0 := blk_cell q5 0 _ rfl
        have q1 := blk_cell q5 1 _ rfl
        have q2 := blk_cell q5 2 _ rfl
        have q3 := blk_cell q5 3 _ rfl
        have q4 := blk_cell q5 4 _ rfl
        refine bodyPost_ret (v := .agg #[.int .i64 e.table, (.slice A1 n c1), .int .i64 e.prio, .int .i64 e.action, (.slice A2 m c2)]) (by simp [results, Try.results8, go_sem, q0, q1, q2, q3, q4]) rfl ?_
        exact bent_end K3.out _ _ _ _ _
      · go_upto_region 38 with (first
          | (go_at_call 22; (with_reducible refine (KQ.out _).mono ?_); rintro en u0 ⟨rfl, rfl⟩)
          | (go_at_call 26; (with_reducible refine (KO.out _ _).mono ?_); rintro en w9 ⟨rfl, hb9⟩)
          | (go_at_call 9; (with_reducible refine (KL.out _ _).mono ?_); rintro en w9 ⟨rfl, hb9⟩))
        obtain ⟨xs1, k1, q1⟩ := HP2.out.put HC2.out 0 (by decide) (.bool false) ⟨_, rfl⟩
        obtain ⟨xs2, k2, q2⟩ := q1.put k1 1 (by decide) (.int .u64 0) ⟨0, rfl, by decide⟩
        obtain ⟨xs3, k3, q3⟩ := q2.put k2 2 (by decide) (.int .u64 0) ⟨0, rfl, by decide⟩
        obtain ⟨xs4, k4, q4⟩ := q3.put k3 3 (by decide) (.int .u64 0) ⟨0, rfl, by decide⟩
        obtain ⟨xs5, k5, q5⟩ := q4.put k4 4 (by decide) (.int .u64 0) ⟨0, rfl, by decide⟩
        obtain ⟨xs6, k6, q6⟩ := q5.put k5 5 (by decide) (.int .i64 0) ⟨0, rfl, by unfold I64; omega⟩
        obtain ⟨xs7, k7, q7⟩ := q6.put k6 6 (by decide) (.int .u64 0) ⟨0, rfl, by decide⟩
        obtain ⟨xs8, k8, q8⟩ := q7.put k7 7 (by decide) (.int .u64 0) ⟨0, rfl, by decide⟩
        obtain ⟨W3, hW3⟩ : ∃ W, W = ((((((((wc.setCell ⟨b, o, none⟩ (.bool false)).setCell ⟨b, o + 1, none⟩ (.int .u64 0)).setCell ⟨b, o + 2, none⟩ (.int .u64 0)).setCell ⟨b, o + 3, none⟩ (.int .u64 0)).setCell ⟨b, o + 4, none⟩ (.int .u64 0)).setCell ⟨b, o + 5, none⟩ (.int .i64 0)).setCell ⟨b, o + 6, none⟩ (.int .u64 0)).setCell ⟨b, o + 7, none⟩ (.int .u64 0)) := ⟨_, rfl⟩
        have K3 : Hid (BtS w W3 x e.table e.prio e.action (.slice A1 n c1) (.slice A2 m c2) n m xs8 (flat (fun u => [.int .u64 (hi u), .int .u64 (lo u)]) e.args)) := Lib.hid (by rw [hW3]; exact k8)
        have HW3 := Lib.hid hW3
        clear hW3
        rw [← HW3.out]
        have y0 : W3.cell? ⟨w.heap.size + 1 + 1, 0, none⟩ = some _ := blk_cell K3.out.br 0 _ rfl
        have fy0 : W3.frozen? ⟨w.heap.size + 1 + 1, 0, none⟩ = false := blk_froz K3.out.br 0
        have e0 := blk_cell K3.out.be 0 _ rfl
        have y1 : W3.cell? ⟨w.heap.size + 1 + 1, 1, none⟩ = some _ := blk_cell K3.out.br 1 _ rfl
        have fy1 : W3.frozen? ⟨w.heap.size + 1 + 1, 1, none⟩ = false := blk_froz K3.out.br 1
        have e1 := blk_cell K3.out.be 1 _ rfl
        have y2 : W3.cell? ⟨w.heap.size + 1 + 1, 2, none⟩ = some _ := blk_cell K3.out.br 2 _ rfl
        have fy2 : W3.frozen? ⟨w.heap.size + 1 + 1, 2, none⟩ = false := blk_froz K3.out.br 2
        have e2 := blk_cell K3.out.be 2 _ rfl
        have y3 : W3.cell? ⟨w.heap.size + 1 + 1, 3, none⟩ = some _ := blk_cell K3.out.br 3 _ rfl
        have fy3 : W3.frozen? ⟨w.heap.size + 1 + 1, 3, none⟩ = false := blk_froz K3.out.br 3
        have e3 := blk_cell K3.out.be 3 _ rfl
        have y4 : W3.cell? ⟨w.heap.size + 1 + 1, 4, none⟩ = some _ := blk_cell K3.out.br 4 _ rfl
        have fy4 : W3.frozen? ⟨w.heap.size + 1 + 1, 4, none⟩ = false := blk_froz K3.out.br 4
        have e4 := blk_cell K3.out.be 4 _ rfl
        clear HW3
        go_wp2_with fail
        have q5 := blk_set5 (k := w.heap.size + 1 + 1) K3.out.br (.int .i64 e.table) (.slice A1 n c1) (.int .i64 e.prio) (.int .i64 e.action) (.slice A2 m c2)
        have q0 := blk_cell q5 0 _ rfl
        have q1 := blk_cell q5 1 _ rfl
        have q2 := blk_cell q5 2 _ rfl
        have q3 := blk_cell q5 3 _ rfl
        have q4 := blk_cell q5 4 _ rfl
        refine bodyPost_ret (v := .agg #[.int .i64 e.table, (.slice A1 n c1), .int .i64 e.prio, .int .i64 e.action, (.slice A2 m c2)]) (by simp [results, Try.results8, go_sem, q0, q1, q2, q3, q4]) rfl ?_
        exact bent_end K3.out _ _ _ _ _
      · go_upto_region 38 with (first
          | (go_at_call 22; (with_reducible refine (KQ.out _).mono ?_); rintro en u0 ⟨rfl, rfl⟩)
          | (go_at_call 26; (with_reducible refine (KO.out _ _).mono ?_); rintro en w9 ⟨rfl, hb9⟩; have HC9 := Lib.hid (HC2.out.keep hb9); have HP9 := Lib.hid (HP2.out.keep hb9); obtain ⟨r0, p0, -⟩ := HP9.out.cl 0 (by decide); rw [Nat.add_zero] at p0; obtain ⟨r1, p1, -⟩ := HP9.out.cl 1 (by decide); obtain ⟨r2, p2, -⟩ := HP9.out.cl 2 (by decide); obtain ⟨r3, p3, -⟩ := HP9.out.cl 3 (by decide); obtain ⟨r4, p4, -⟩ := HP9.out.cl 4 (by decide); obtain ⟨r5, p5, -⟩ := HP9.out.cl 5 (by decide); obtain ⟨r6, p6, -⟩ := HP9.out.cl 6 (by decide); obtain ⟨r7, p7, -⟩ := HP9.out.cl 7 (by decide); have ff0 := HP9.out.fz (o); have ff1 := HP9.out.fz (o + 1); have ff2 := HP9.out.fz (o + 2); have ff3 := HP9.out.fz (o + 3); have ff4 := HP9.out.fz (o + 4); have ff5 := HP9.out.fz (o + 5); have ff6 := HP9.out.fz (o + 6); have ff7 := HP9.out.fz (o + 7))
          | (go_at_call 9; (with_reducible refine (KL.out _ _).mono ?_); rintro en w9 ⟨rfl, hb9⟩; have HC9 := Lib.hid (HC2.out.keep hb9); have HP9 := Lib.hid (HP2.out.keep hb9); obtain ⟨r0, p0, -⟩ := HP9.out.cl 0 (by decide); rw [Nat.add_zero] at p0; obtain ⟨r1, p1, -⟩ := HP9.out.cl 1 (by decide); obtain ⟨r2, p2, -⟩ := HP9.out.cl 2 (by decide); obtain ⟨r3, p3, -⟩ := HP9.out.cl 3 (by decide); obtain ⟨r4, p4, -⟩ := HP9.out.cl 4 (by decide); obtain ⟨r5, p5, -⟩ := HP9.out.cl 5 (by decide); obtain ⟨r6, p6, -⟩ := HP9.out.cl 6 (by decide); obtain ⟨r7, p7, -⟩ := HP9.out.cl 7 (by decide); have ff0 := HP9.out.fz (o); have ff1 := HP9.out.fz (o + 1); have ff2 := HP9.out.fz (o + 2); have ff3 := HP9.out.fz (o + 3); have ff4 := HP9.out.fz (o + 4); have ff5 := HP9.out.fz (o + 5); have ff6 := HP9.out.fz (o + 6); have ff7 := HP9.out.fz (o + 7)))
        obtain ⟨xs1, k1, q1⟩ := HP9.out.put HC9.out 0 (by decide) (.bool true) ⟨_, rfl⟩
        obtain ⟨xs2, k2, q2⟩ := q1.put k1 1 (by decide) (.int .u64 0) ⟨0, rfl, by decide⟩
        obtain ⟨xs3, k3, q3⟩ := q2.put k2 2 (by decide) (.int .u64 0) ⟨0, rfl, by decide⟩
        obtain ⟨xs4, k4, q4⟩ := q3.put k3 3 (by decide) (.int .u64 0) ⟨0, rfl, by decide⟩
        obtain ⟨xs5, k5, q5⟩ := q4.put k4 4 (by decide) (.int .u64 0) ⟨0, rfl, by decide⟩
        obtain ⟨xs6, k6, q6⟩ := q5.put k5 5 (by decide) (.int .i64 0) ⟨0, rfl, by unfold I64; omega⟩
        obtain ⟨xs7, k7, q7⟩ := q6.put k6 6 (by decide) (.int .u64 (hi (ones (bits .and .i64 q 31)))) (mc_hl (ones (bits .and .i64 q 31)) (ones_128B _)).1
        obtain ⟨xs8, k8, q8⟩ := q7.put k7 7 (by decide) (.int .u64 (lo (ones (bits .and .i64 q 31)))) (mc_hl (ones (bits .and .i64 q 31)) (ones_128B _)).2
        obtain ⟨W3, hW3⟩ : ∃ W, W = ((((((((w9.setCell ⟨b, o, none⟩ (.bool true)).setCell ⟨b, o + 1, none⟩ (.int .u64 0)).setCell ⟨b, o + 2, none⟩ (.int .u64 0)).setCell ⟨b, o + 3, none⟩ (.int .u64 0)).setCell ⟨b, o + 4, none⟩ (.int .u64 0)).setCell ⟨b, o + 5, none⟩ (.int .i64 0)).setCell ⟨b, o + 6, none⟩ (.int .u64 (hi (ones (bits .and .i64 q 31))))).setCell ⟨b, o + 7, none⟩ (.int .u64 (lo (ones (bits .and .i64 q 31))))) := ⟨_, rfl⟩
        have K3 : Hid (BtS w W3 x e.table e.prio e.action (.slice A1 n c1) (.slice A2 m c2) n m xs8 (flat (fun u => [.int .u64 (hi u), .int .u64 (lo u)]) e.args)) := Lib.hid (by rw [hW3]; exact k8)
        have HW3 := Lib.hid hW3
        clear hW3
        rw [← HW3.out]
        have y0 : W3.cell? ⟨w.heap.size + 1 + 1, 0, none⟩ = some _ := blk_cell K3.out.br 0 _ rfl
        have fy0 : W3.frozen? ⟨w.heap.size + 1 + 1, 0, none⟩ = false := blk_froz K3.out.br 0
        have e0 := blk_cell K3.out.be 0 _ rfl
        have y1 : W3.cell? ⟨w.heap.size + 1 + 1, 1, none⟩ = some _ := blk_cell K3.out.br 1 _ rfl
        have fy1 : W3.frozen? ⟨w.heap.size + 1 + 1, 1, none⟩ = false := blk_froz K3.out.br 1
        have e1 := blk_cell K3.out.be 1 _ rfl
        have y2 : W3.cell? ⟨w.heap.size + 1 + 1, 2, none⟩ = some _ := blk_cell K3.out.br 2 _ rfl
        have fy2 : W3.frozen? ⟨w.heap.size + 1 + 1, 2, none⟩ = false := blk_froz K3.out.br 2
        have e2 := blk_cell K3.out.be 2 _ rfl
        have y3 : W3.cell? ⟨w.heap.size + 1 + 1, 3, none⟩ = some _ := blk_cell K3.out.br 3 _ rfl
        have fy3 : W3.frozen? ⟨w.heap.size + 1 + 1, 3, none⟩ = false := blk_froz K3.out.br 3
        have e3 := blk_cell K3.out.be 3 _ rfl
        have y4 : W3.cell? ⟨w.heap.size + 1 + 1, 4, none⟩ = some _ := blk_cell K3.out.br 4 _ rfl
        have fy4 : W3.frozen? ⟨w.heap.size + 1 + 1, 4, none⟩ = false := blk_froz K3.out.br 4
        have e4 := blk_cell K3.out.be 4 _ rfl
        clear HW3
        go_wp2_with fail
        have q5 := blk_set5 (k := w.heap.size + 1 + 1) K3.out.br (.int .i64 e.table) (.slice A1 n c1) (.int .i64 e.prio) (.int .i64 e.action) (.slice A2 m c2)
        have q0 := blk_cell q5 0 _ rfl
        have q1 := blk_cell q5 1 _ rfl
        have q2 := blk_cell q5 2 _ rfl
        have q3 := blk_cell q5 3 _ rfl
        have q4 := blk_cell q5 4 _ rfl
        refine bodyPost_ret (v := .agg #[.int .i64 e.table, (.slice A1 n c1), .int .i64 e.prio, .int .i64 e.action, (.slice A2 m c2)]) (by simp [results, Try.results8, go_sem, q0, q1, q2, q3, q4]) rfl ?_
        exact bent_end K3.out _ _ _ _ _
      · go_upto_region 33 with (first
          | (go_at_call 22; (with_reducible refine (KQ.out _).mono ?_); rintro en u0 ⟨rfl, rfl⟩)
          | (go_at_call 26; (with_reducible refine (KO.out _ _).mono ?_); rintro en w9 ⟨rfl, hb9⟩)
          | (go_at_call 9; (with_reducible refine (KL.out _ _).mono ?_); rintro en w9 ⟨rfl, hb9⟩))
        go_wp2_with fail
        go_loopw [128] (fun i W => ∃ (k : Nat) (zs : List Value), k ≤ m ∧ i = .int .i64 (k : Int) ∧ BtS w W x e.table e.prio e.action (.slice A1 n c1) (.slice A2 m c2) n m (flat matchCells e.ms) zs) (fun i _ => m - (intOf i).toNat)
        case atStart => exact ⟨0, _, Nat.zero_le _, rfl, HC2.out⟩
        case round =>
          obtain ⟨k, zs, hk, rfl, hI⟩ := hrel
          have HI := Lib.hid hI
          have l4 : wr.cell? ⟨w.heap.size, 4, none⟩ = some (.slice A2 m c2) := blk_cell hI.be 4 _ rfl
          have l5 : wr.cell? ⟨w.heap.size + 1, 0, none⟩ = some (.int .u64 (hi x)) := blk_cell hI.bv 0 _ rfl
          have l6 : wr.cell? ⟨w.heap.size + 1, 1, none⟩ = some (.int .u64 (lo x)) := blk_cell hI.bv 1 _ rfl
          clear hI
          by_cases hlt : k < m
          · have j1 : (k : Int) < (m : Int) := by omega
            have j2 : (k : Int) < (c2 : Int) := by omega
            have j3 : (0 : Int) ≤ (k : Int) := by omega
            obtain ⟨g2, rfl⟩ := hA2 (by omega)
            have n0 : wr.cell? ⟨g2, k * 2, none⟩ = some _ := (World.ownsRow.cellAt HI.out.r2 (k * 2) (by omega)).trans (List.getElem?_eq_getElem (by rw [HI.out.r2.1]; omega))
            have n1 : wr.cell? ⟨g2, k * 2 + 1, none⟩ = some _ := (World.ownsRow.cellAt HI.out.r2 (k * 2 + 1) (by omega)).trans (List.getElem?_eq_getElem (by rw [HI.out.r2.1]; omega))
            have fn0 := World.ownsRow.frozenAt HI.out.r2 (k * 2)
            have fn1 := World.ownsRow.frozenAt HI.out.r2 (k * 2 + 1)
            go_wp2_with fail
            go_roundw
            case rel => exact ⟨k + 1, _, by omega, by simp, HI.out.arg HX.out k⟩
            case measure => (first | (simp; omega) | (simp [intOf]; omega) | omega)
          · obtain rfl : k = m := by omega
            have j1 : ¬ (k : Int) < (k : Int) := by omega
            have K3 := HI
            go_upto_region 38 with fail
            have y0 : wr.cell? ⟨w.heap.size + 1 + 1, 0, none⟩ = some _ := blk_cell K3.out.br 0 _ rfl
            have fy0 : wr.frozen? ⟨w.heap.size + 1 + 1, 0, none⟩ = false := blk_froz K3.out.br 0
            have e0 := blk_cell K3.out.be 0 _ rfl
            have y1 : wr.cell? ⟨w.heap.size + 1 + 1, 1, none⟩ = some _ := blk_cell K3.out.br 1 _ rfl
            have fy1 : wr.frozen? ⟨w.heap.size + 1 + 1, 1, none⟩ = false := blk_froz K3.out.br 1
            have e1 := blk_cell K3.out.be 1 _ rfl
            have y2 : wr.cell? ⟨w.heap.size + 1 + 1, 2, none⟩ = some _ := blk_cell K3.out.br 2 _ rfl
            have fy2 : wr.frozen? ⟨w.heap.size + 1 + 1, 2, none⟩ = false := blk_froz K3.out.br 2
            have e2 := blk_cell K3.out.be 2 _ rfl
            have y3 : wr.cell? ⟨w.heap.size + 1 + 1, 3, none⟩ = some _ := blk_cell K3.out.br 3 _ rfl
            have fy3 : wr.frozen? ⟨w.heap.size + 1 + 1, 3, none⟩ = false := blk_froz K3.out.br 3
            have e3 := blk_cell K3.out.be 3 _ rfl
            have y4 : wr.cell? ⟨w.heap.size + 1 + 1, 4, none⟩ = some _ := blk_cell K3.out.br 4 _ rfl
            have fy4 : wr.frozen? ⟨w.heap.size + 1 + 1, 4, none⟩ = false := blk_froz K3.out.br 4
            have e4 := blk_cell K3.out.be 4 _ rfl
            go_wp2_with fail
            have q5 := blk_set5 (k := w.heap.size + 1 + 1) K3.out.br (.int .i64 e.table) (.slice A1 n c1) (.int .i64 e.prio) (.int .i64 e.action) (.slice A2 k c2)
            have q0 := blk_cell q5 0 _ rfl
            have q1 := blk_cell q5 1 _ rfl
            have q2 := blk_cell q5 2 _ rfl
            have q3 := blk_cell q5 3 _ rfl
            have q4 := blk_cell q5 4 _ rfl
            refine bodyPost_ret (v := .agg #[.int .i64 e.table, (.slice A1 n c1), .int .i64 e.prio, .int .i64 e.action, (.slice A2 k c2)]) (by simp [results, Try.results8, go_sem, q0, q1, q2, q3, q4]) rfl ?_
            exact bent_end K3.out _ _ _ _ _
      · go_upto_region 38 with (first
          | (go_at_call 22; (with_reducible refine (KQ.out _).mono ?_); rintro en u0 ⟨rfl, rfl⟩)
          | (go_at_call 26; (with_reducible refine (KO.out _ _).mono ?_); rintro en w9 ⟨rfl, hb9⟩; have HC9 := Lib.hid (HC2.out.keep hb9); have HP9 := Lib.hid (HP2.out.keep hb9); obtain ⟨r0, p0, -⟩ := HP9.out.cl 0 (by decide); rw [Nat.add_zero] at p0; obtain ⟨r1, p1, -⟩ := HP9.out.cl 1 (by decide); obtain ⟨r2, p2, -⟩ := HP9.out.cl 2 (by decide); obtain ⟨r3, p3, -⟩ := HP9.out.cl 3 (by decide); obtain ⟨r4, p4, -⟩ := HP9.out.cl 4 (by decide); obtain ⟨r5, p5, -⟩ := HP9.out.cl 5 (by decide); obtain ⟨r6, p6, -⟩ := HP9.out.cl 6 (by decide); obtain ⟨r7, p7, -⟩ := HP9.out.cl 7 (by decide); have ff0 := HP9.out.fz (o); have ff1 := HP9.out.fz (o + 1); have ff2 := HP9.out.fz (o + 2); have ff3 := HP9.out.fz (o + 3); have ff4 := HP9.out.fz (o + 4); have ff5 := HP9.out.fz (o + 5); have ff6 := HP9.out.fz (o + 6); have ff7 := HP9.out.fz (o + 7))
          | (go_at_call 9; (with_reducible refine (KL.out _ _).mono ?_); rintro en w9 ⟨rfl, hb9⟩; have HC9 := Lib.hid (HC2.out.keep hb9); have HP9 := Lib.hid (HP2.out.keep hb9); obtain ⟨r0, p0, -⟩ := HP9.out.cl 0 (by decide); rw [Nat.add_zero] at p0; obtain ⟨r1, p1, -⟩ := HP9.out.cl 1 (by decide); obtain ⟨r2, p2, -⟩ := HP9.out.cl 2 (by decide); obtain ⟨r3, p3, -⟩ := HP9.out.cl 3 (by decide); obtain ⟨r4, p4, -⟩ := HP9.out.cl 4 (by decide); obtain ⟨r5, p5, -⟩ := HP9.out.cl 5 (by decide); obtain ⟨r6, p6, -⟩ := HP9.out.cl 6 (by decide); obtain ⟨r7, p7, -⟩ := HP9.out.cl 7 (by decide); have ff0 := HP9.out.fz (o); have ff1 := HP9.out.fz (o + 1); have ff2 := HP9.out.fz (o + 2); have ff3 := HP9.out.fz (o + 3); have ff4 := HP9.out.fz (o + 4); have ff5 := HP9.out.fz (o + 5); have ff6 := HP9.out.fz (o + 6); have ff7 := HP9.out.fz (o + 7)))
        obtain ⟨xs1, k1, q1⟩ := HP9.out.put HC9.out 1 (by decide) (.int .u64 (hi (lowB x (bits .and .i64 q 31)))) (mc_hl (lowB x (bits .and .i64 q 31)) (Nat.lt_of_le_of_lt (Nat.mod_le _ _) HX.out)).1
        obtain ⟨xs2, k2, q2⟩ := q1.put k1 2 (by decide) (.int .u64 (lo (lowB x (bits .and .i64 q 31)))) (mc_hl (lowB x (bits .and .i64 q 31)) (Nat.lt_of_le_of_lt (Nat.mod_le _ _) HX.out)).2
        obtain ⟨W3, hW3⟩ : ∃ W, W = ((w9.setCell ⟨b, o + 1, none⟩ (.int .u64 (hi (lowB x (bits .and .i64 q 31))))).setCell ⟨b, o + 1 + 1, none⟩ (.int .u64 (lo (lowB x (bits .and .i64 q 31))))) := ⟨_, rfl⟩
        have K3 : Hid (BtS w W3 x e.table e.prio e.action (.slice A1 n c1) (.slice A2 m c2) n m xs2 (flat (fun u => [.int .u64 (hi u), .int .u64 (lo u)]) e.args)) := Lib.hid (by rw [hW3]; exact k2)
        have HW3 := Lib.hid hW3
        clear hW3
        rw [← HW3.out]
        have y0 : W3.cell? ⟨w.heap.size + 1 + 1, 0, none⟩ = some _ := blk_cell K3.out.br 0 _ rfl
        have fy0 : W3.frozen? ⟨w.heap.size + 1 + 1, 0, none⟩ = false := blk_froz K3.out.br 0
        have e0 := blk_cell K3.out.be 0 _ rfl
        have y1 : W3.cell? ⟨w.heap.size + 1 + 1, 1, none⟩ = some _ := blk_cell K3.out.br 1 _ rfl
        have fy1 : W3.frozen? ⟨w.heap.size + 1 + 1, 1, none⟩ = false := blk_froz K3.out.br 1
        have e1 := blk_cell K3.out.be 1 _ rfl
        have y2 : W3.cell? ⟨w.heap.size + 1 + 1, 2, none⟩ = some _ := blk_cell K3.out.br 2 _ rfl
        have fy2 : W3.frozen? ⟨w.heap.size + 1 + 1, 2, none⟩ = false := blk_froz K3.out.br 2
        have e2 := blk_cell K3.out.be 2 _ rfl
        have y3 : W3.cell? ⟨w.heap.size + 1 + 1, 3, none⟩ = some _ := blk_cell K3.out.br 3 _ rfl
        have fy3 : W3.frozen? ⟨w.heap.size + 1 + 1, 3, none⟩ = false := blk_froz K3.out.br 3
        have e3 := blk_cell K3.out.be 3 _ rfl
        have y4 : W3.cell? ⟨w.heap.size + 1 + 1, 4, none⟩ = some _ := blk_cell K3.out.br 4 _ rfl
        have fy4 : W3.frozen? ⟨w.heap.size + 1 + 1, 4, none⟩ = false := blk_froz K3.out.br 4
        have e4 := blk_cell K3.out.be 4 _ rfl
        clear HW3
        go_wp2_with fail
        have q5 := blk_set5 (k := w.heap.size + 1 + 1) K3.out.br (.int .i64 e.table) (.slice A1 n c1) (.int .i64 e.prio) (.int .i64 e.action) (.slice A2 m c2)
        have q0 := blk_cell q5 0 _ rfl
        have q1 := blk_cell q5 1 _ rfl
        have q2 := blk_cell q5 2 _ rfl
        have q3 := blk_cell q5 3 _ rfl
        have q4 := blk_cell q5 4 _ rfl
        refine bodyPost_ret (v := .agg #[.int .i64 e.table, (.slice A1 n c1), .int .i64 e.prio, .int .i64 e.action, (.slice A2 m c2)]) (by simp [results, Try.results8, go_sem, q0, q1, q2, q3, q4]) rfl ?_
        exact bent_end K3.out _ _ _ _ _
end Go.Proofs.Ythldelnibgdnaaa
