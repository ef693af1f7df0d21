/- Entries out of choices: Codes.Entries. -/
import Derived.Test.YthldelnibgdnaaaGEntr
import Derived.Test.YthldelnibgdnaaaNLast
import Derived.Test.YthldelnibgdnaaaQApp
import Derived.Deep.RegionHeld3
namespace Go.Proofs.Ythldelnibgdnaaa
open Go.RowKit
/-- an entry with its two slices -/
structure EntX where
  d : EntryD
  v : Value
  u : Value
def EntX.cells (e : EntX) : List Value := [.int .i64 e.d.table, e.v, .int .i64 e.d.prio, .int .i64 e.d.action, e.u]
/-- its rows lie between a and b, and the row of entries does not -/
def EntK (x : SchemaD) (base : Nat) (og : Option Nat) (W : World) (e : EntX) : Prop := ∃ a b, base ≤ a ∧ a ≤ b ∧ b ≤ W.heap.size ∧ (∀ k, og = some k → k < a ∨ b ≤ k) ∧ RowH 8 MatchV a b W e.v e.d.ms ∧ RowH 2 ValV a b W e.u e.d.args ∧ ∃ t ∈ x.tables, EntFit x t e.d
theorem EntK.grown {x : SchemaD} {base : Nat} {og row : Option Nat} {W W' : World} {e : EntX} (h : EntK x base og W e) (hg : W.grownBy W' row) (hr : ∀ k, row = some k → k < base ∨ og = some k) : EntK x base og W' e := by
  obtain ⟨a, b, h1, h0, h2, h3, h4, h5, h6⟩ := h
  have hs : SameB a b W W' := SameB.of_grown hg h2 fun k hk => by
    rcases hr k hk with h7 | h7
    · omega
    · exact h3 k h7
  exact ⟨a, b, h1, h0, Nat.le_trans h2 hg.size, h3, h4.kept hs, h5.kept hs, h6⟩
theorem EntK.app {x : SchemaD} {base : Nat} {og og' : Option Nat} {W W' : World} {e : EntX} (h : EntK x base og W e) (hg : W.grownBy W' og) (ho : og' = og ∨ og' = some W.heap.size) : EntK x base og' W' e := by
  obtain ⟨a, b, h1, h0, h2, h3, h4, h5, h6⟩ := h
  have hs : SameB a b W W' := SameB.of_grown hg h2 h3
  refine ⟨a, b, h1, h0, Nat.le_trans h2 hg.size, fun k hk => ?_, h4.kept hs, h5.kept hs, h6⟩
  rcases ho with ho | ho
  · exact h3 k (by rw [← ho]; exact hk)
  · rw [ho] at hk; injection hk with hk; omega
structure EntsI (SV0 SV1 SV2 SV3 SV4 SV5 SV6 SV7 SV8 SV9 : Value) (K D : Nat) (l : List Nat) (x : SchemaD) (w W : World) (v : Value) (xs : List EntX) : Prop where
  own : W.ownsRow (w.heap.size + 1) 26 5 v xs.length (xs.flatMap EntX.cells)
  el : ∀ e ∈ xs, EntK x (w.heap.size + 1) v.ownBlock W e
  gr : w.grownBy W (some K)
  box : W.heap[w.heap.size]? = some (.cells #[SV0, SV1, SV2, SV3, SV4, SV5, SV6, SV7, SV8, SV9] 39 (0, 0))
  co : ∃ p, CoAt K D l p W
  len : xs.length ≤ 1000
theorem entX_one (e : EntX) (hv : e.v.oneCell' = true) (hu : e.u.oneCell' = true) : ∀ u ∈ e.cells, u.oneCell' = true := fun u h => by
  simp only [EntX.cells, List.mem_cons, List.not_mem_nil, or_false] at h
  rcases h with h | h | h | h | h
  · rw [h]; rfl
  · rw [h]; exact hv
  · rw [h]; rfl
  · rw [h]; rfl
  · rw [h]; exact hu
set_option maxRecDepth 100000 in
theorem info_entX : (Try.prog.info? 26).map (fun i => (i.zero, i.size, i.bytes)) = some (some (.agg #[.int .i64 0, .slice none 0 0, .int .i64 0, .int .i64 0, .slice none 0 0]), 5, 72) := by kernel_rfl
theorem info_partsE {P : Program} {t : TypeId} {z : Option Value} {a b : Nat} (h : (P.info? t).map (fun i => (i.zero, i.size, i.bytes)) = some (z, a, b)) : ∃ i, P.info? t = some i ∧ i.zero = z ∧ i.size = a ∧ i.bytes = b := by
  obtain ⟨i, h1, h2⟩ := Option.map_eq_some_iff.1 h
  simp only [Prod.mk.injEq] at h2
  exact ⟨i, h1, h2.1, h2.2.1, h2.2.2⟩
theorem own_shapeE {w : World} {base : Nat} {e : TypeId} {sz : Nat} {v : Value} {n : Nat} {xs : List Value} (h : w.ownsRow base e sz v n xs) : ∃ A c, v = .slice A n c := by
  rcases h.2 with ⟨rfl, rfl⟩ | ⟨g, cap, cur, rfl, _⟩
  · exact ⟨none, 0, rfl⟩
  · exact ⟨_, _, rfl⟩
theorem modI_natE (x : Int) (n : Nat) (h1 : 1 ≤ n) : ∃ r : Nat, r < n ∧ modI x n = (r : Int) := by
  obtain ⟨a, b⟩ := modI_b x n h1
  exact ⟨(modI x n).toNat, by omega, by omega⟩
def RetEnts (K D : Nat) (l : List Nat) (x : SchemaD) (w : World) (n : Nat) (en : Ending) (w' : World) : Prop := ∃ (v : Value) (xs : List EntX), en = .returned v ∧ xs.length ≤ n ∧ w'.ownsRow (w.heap.size + 1) 26 5 v xs.length (xs.flatMap EntX.cells) ∧ (∀ e ∈ xs, EntK x (w.heap.size + 1) v.ownBlock w' e) ∧ w.grownBy w' (some K) ∧ ∃ p, CoAt K D l p w'
theorem EntsI.step {SV0 SV1 SV2 SV3 SV4 SV5 SV6 SV7 SV8 SV9 : Value} {K D : Nat} {l : List Nat} {x : SchemaD} {w W W' : World} {v : Value} {xs : List EntX} (h : EntsI SV0 SV1 SV2 SV3 SV4 SV5 SV6 SV7 SV8 SV9 K D l x w W v xs) (hg : W.grownBy W' (some K)) (hK : K < w.heap.size) (hc : ∃ p, CoAt K D l p W') : EntsI SV0 SV1 SV2 SV3 SV4 SV5 SV6 SV7 SV8 SV9 K D l x w W' v xs := by
  refine ⟨World.ownsRow.kept h.own hg (.inr fun e => ?_), fun e he => (h.el e he).grown hg fun k hk => ?_, h.gr.trans hg, (hg.block _ (Array.getElem?_eq_some_iff.1 h.box).1 (fun e => by injection e with e; omega)).trans h.box, hc, h.len⟩
  · have := (World.ownsRow.lt h.own _ e).1
    omega
  · injection hk with hk
    exact .inl (by omega)
set_option maxRecDepth 100000 in
set_option maxHeartbeats 4000000 in
theorem cs_entries (w : World) (B K D p0 : Nat) (l : List Nat) {s0 s1 s2 s3 s4 s5 s6 s7 : Value} {x : SchemaD} (h : SchM w B s0 s1 s2 s3 s4 s5 s6 s7 x) (hg : GenOk x) (hB : B ≤ w.heap.size) (hBK : B ≤ K) (s8 s9 : Value) (hco : CoAt K D l p0 w) (n : Nat) (hn : n ≤ 100) :
    Calls Try.prog 7 #[.pointer (some ⟨K, 0, none⟩), .agg #[s0, s1, s2, s3, s4, s5, s6, s7, s8, s9], .int .i64 n] w (RetEnts K D l x w n) := by
  have HS := Lib.hid h
  have HG := Lib.hid hg
  have HK0 := Lib.hid hco.lt
  have HD := Lib.hid hco.dlt
  obtain ⟨i0, hi0, hz0, hy1, hy2⟩ := info_partsE info_entX
  have HI0 := Lib.hid hi0
  have HZ0 := Lib.hid hz0
  have HY1 := Lib.hid hy1
  have HY2 := Lib.hid hy2
  obtain ⟨w0, hw0⟩ : ∃ w0, w0 = w.alloc (.cells #[s0, s1, s2, s3, s4, s5, s6, s7, s8, s9] 39) := ⟨_, rfl⟩
  have HW0 := Lib.hid hw0
  have I0 : Hid (EntsI s0 s1 s2 s3 s4 s5 s6 s7 s8 s9 K D l x w w0 (.slice none 0 0) []) := Lib.hid (by
    rw [hw0]
    exact ⟨World.ownsRow_nil _ _ _ _, fun e h => (by cases h), grown_alloc w _ (some K), heap_alloc_new _ _, ⟨p0, hco.kept (row := none) (grown_alloc w _ none) (by simp) (fun _ => by simp)⟩, Nat.zero_le _⟩)
  clear hi0 hz0 hy1 hy2 h hg hw0 hco
  go_enter Try.func7, Try.ntmps7
  go_wp2_with fail
  rw [← HW0.out]
  go_loopw [7] (fun v W => ∃ xs : List EntX, xs.length ≤ n ∧ (∃ A c, v = .slice A xs.length c) ∧ EntsI s0 s1 s2 s3 s4 s5 s6 s7 s8 s9 K D l x w W v xs) (fun v _ => match v with | .slice _ k _ => n - k | _ => 0)
  case atStart => exact ⟨[], Nat.zero_le _, ⟨none, 0, rfl⟩, I0.out⟩
  case round =>
    obtain ⟨xs, hxn, ⟨A, c, rfl⟩, hI⟩ := hrel
    have HI := Lib.hid hI
    obtain ⟨p, hcp⟩ := hI.co
    have HL := Lib.hid (coleft_any hcp)
    clear hI hcp
    obtain ⟨lf, hlf⟩ : ∃ lf, lf = decide (p < l.length) := ⟨_, rfl⟩
    rw [← hlf] at HL
    clear hlf
    by_cases hlt : xs.length < n
    · have j1 : (xs.length : Int) < (n : Int) := by omega
      cases lf with
      | false =>
        go_wp2_with (go_at_call 25; (with_reducible refine HL.out.mono ?_); rintro en w1 ⟨rfl, q, rfl⟩)
        refine bodyPost_ret (v := .slice A xs.length c) (by simp [results, Try.results7, go_sem]) rfl ?_
        have hd := HI.out.step (W' := wr.drewN q) ⟨rfl, rfl, rfl, Nat.le_refl _, fun _ _ _ => rfl⟩ HK0.out (by obtain ⟨p, h⟩ := HI.out.co; exact ⟨p, h.drewN⟩)
        exact ⟨_, xs, rfl, hxn, hd.own, hd.el, hd.gr, hd.co⟩
      | true =>
        go_wp2_with (go_at_call 25; (with_reducible refine HL.out.mono ?_); rintro en w1 ⟨rfl, q, rfl⟩)
        have I1 := Lib.hid (HI.out.step (W' := wr.drewN (q + 1)) ⟨rfl, rfl, rfl, Nat.le_refl _, fun _ _ _ => rfl⟩ HK0.out (by obtain ⟨p, h⟩ := HI.out.co; exact ⟨p, h.drewN⟩))
        have HKS : Hid (∀ w' : World, w'.heap[w.heap.size]? = some (.cells #[s0, s1, s2, s3, s4, s5, s6, s7, s8, s9] 39 (0, 0)) → w'.cell? ⟨w.heap.size, 0, none⟩ = some s0 ∧ w'.cell? ⟨w.heap.size, 1, none⟩ = some s1 ∧ w'.cell? ⟨w.heap.size, 2, none⟩ = some s2 ∧ w'.cell? ⟨w.heap.size, 3, none⟩ = some s3 ∧ w'.cell? ⟨w.heap.size, 4, none⟩ = some s4 ∧ w'.cell? ⟨w.heap.size, 5, none⟩ = some s5 ∧ w'.cell? ⟨w.heap.size, 6, none⟩ = some s6 ∧ w'.cell? ⟨w.heap.size, 7, none⟩ = some s7 ∧ w'.cell? ⟨w.heap.size, 8, none⟩ = some s8 ∧ w'.cell? ⟨w.heap.size, 9, none⟩ = some s9) := Lib.hid fun w' q0 => ⟨blk_cell q0 0 _ rfl, blk_cell q0 1 _ rfl, blk_cell q0 2 _ rfl, blk_cell q0 3 _ rfl, blk_cell q0 4 _ rfl, blk_cell q0 5 _ rfl, blk_cell q0 6 _ rfl, blk_cell q0 7 _ rfl, blk_cell q0 8 _ rfl, blk_cell q0 9 _ rfl⟩
        have KN : Hid (∀ (W : World) (p : Nat), CoAt K D l p W → Calls Try.prog 16 #[.pointer (some ⟨K, 0, none⟩), .int .i64 4] W (Chose K D l 4 W)) := Lib.hid fun W p h => next_any 4 (by decide) (by decide) h
        have KE : Hid (∀ (W : World) (vn : Int), EntsI s0 s1 s2 s3 s4 s5 s6 s7 s8 s9 K D l x w W (.slice A xs.length c) xs → Calls Try.prog 6 #[.pointer (some ⟨K, 0, none⟩), .agg #[s0, s1, s2, s3, s4, s5, s6, s7, s8, s9], .int .i64 vn] W fun en w' => ∃ (A1 A2 : Option Addr) (n1 c1 n2 c2 : Nat) (e : EntryD), en = .returned (.agg #[.int .i64 e.table, .slice A1 n1 c1, .int .i64 e.prio, .int .i64 e.action, .slice A2 n2 c2]) ∧ W.grownBy w' (some K) ∧ (∃ p, CoAt K D l p w') ∧ EntK x (w.heap.size + 1) (Value.slice A xs.length c).ownBlock w' ⟨e, .slice A1 n1 c1, .slice A2 n2 c2⟩) := Lib.hid fun W vn hI => by
          obtain ⟨r, hr, hm⟩ := modI_natE vn x.tables.length (by have := HG.out.ne; cases ht : x.tables with | nil => exact absurd ht this | cons a b => simp)
          obtain ⟨t, ht⟩ : ∃ t, x.tables[r]? = some t := ⟨_, List.getElem?_eq_getElem hr⟩
          obtain ⟨p, hc⟩ := hI.co
          have hbl : Below B w W := ⟨hI.gr.os, hI.gr.tape, hI.gr.output, hI.gr.size, fun k hk => hI.gr.block k (by omega) (fun e => by injection e with e; omega)⟩
          refine (cs_entry W B K D p l (HS.out.below hbl) HG.out (Nat.le_trans hB hbl.size) hBK s8 s9 hc vn r hm t ht).mono ?_
          rintro en w' ⟨v, u, e, rfl, hf, h1, h2, h3, h4⟩
          obtain ⟨A1, n1, c1, rfl, -⟩ := h1.row (Nat.le_refl _)
          obtain ⟨A2, n2, c2, rfl, -⟩ := h2.row (Nat.le_refl _)
          refine ⟨A1, A2, n1, c1, n2, c2, e, rfl, h3, h4, W.heap.size, w'.heap.size, ?_, h3.size, Nat.le_refl _, fun k hk => .inl (World.ownsRow.lt hI.own k hk).2, h1, h2, t, List.mem_of_getElem? ht, hf⟩
          have := (Array.getElem?_eq_some_iff.1 hI.box).1
          omega
        refine wp_region_lastH (N := 8) (S := fun w' => w'.cell? ⟨w.heap.size, 0, none⟩ = some s0 ∧ w'.cell? ⟨w.heap.size, 1, none⟩ = some s1 ∧ w'.cell? ⟨w.heap.size, 2, none⟩ = some s2 ∧ w'.cell? ⟨w.heap.size, 3, none⟩ = some s3 ∧ w'.cell? ⟨w.heap.size, 4, none⟩ = some s4 ∧ w'.cell? ⟨w.heap.size, 5, none⟩ = some s5 ∧ w'.cell? ⟨w.heap.size, 6, none⟩ = some s6 ∧ w'.cell? ⟨w.heap.size, 7, none⟩ = some s7 ∧ w'.cell? ⟨w.heap.size, 8, none⟩ = some s8 ∧ w'.cell? ⟨w.heap.size, 9, none⟩ = some s9) (by kernel_rfl) (by kernel_rfl) (HKS.out _ I1.out.box) (fun hHeld => ?_)
        simp only [List.pop_toArray, List.dropLast_cons_cons, List.dropLast_singleton]
        refine wpAnyH_take (i := 0) (oi := ({ dst := some 16, op := Op.move (Operand.tmp 7), type := 44, pos := "entry.go:77", after := #[], guard := none } : Oper)) (v := ?_) rfl (by kernel_rfl) (by kernel_rfl) (by kernel_rfl) (fun _ _ _ h => h) (Or.inl ⟨by rfl, ?_⟩) hHeld ?_
        rotate_left
        · (intro w1 hSw; (try dsimp only at hSw); go_simp; all_goals with_reducible rfl)
        (try go_frame)
        refine wpAnyH_take (i := 1) (oi := ({ dst := some 17, op := Op.move (Operand.tmp 0), type := 40, pos := "entry.go:77", after := #[], guard := none } : Oper)) (v := ?_) rfl (by kernel_rfl) (by kernel_rfl) (by kernel_rfl) (fun _ _ _ h => h) (Or.inl ⟨by rfl, ?_⟩) hHeld ?_
        rotate_left
        · (intro w1 hSw; (try dsimp only at hSw); go_simp; all_goals with_reducible rfl)
        (try go_frame)
        refine wpAnyH_take (i := 2) (oi := ({ dst := some 18, op := Op.load 39 (Operand.tmp 4), type := 39, pos := "entry.go:77", after := #[], guard := none } : Oper)) (v := ?_) rfl (by kernel_rfl) (by kernel_rfl) (by kernel_rfl) (fun _ _ _ h => h) (Or.inl ⟨by rfl, ?_⟩) hHeld ?_
        rotate_left
        · (intro w1 hSw; (try dsimp only at hSw); go_simp; all_goals with_reducible rfl)
        (try go_frame)
        refine wpAnyH_take (i := 3) (oi := ({ dst := some 19, op := Op.move (Operand.tmp 0), type := 40, pos := "entry.go:77", after := #[], guard := none } : Oper)) (v := ?_) rfl (by kernel_rfl) (by kernel_rfl) (by kernel_rfl) (fun _ _ _ h => h) (Or.inl ⟨by rfl, ?_⟩) hHeld ?_
        rotate_left
        · (intro w1 hSw; (try dsimp only at hSw); go_simp; all_goals with_reducible rfl)
        (try go_frame)
        refine wpAnyH_ready (rs := [4]) (by kernel_rfl) (by simp) ?_
        refine AllReadyH.cons (o := ({ dst := some 20, op := Op.call { callee := Callee.value (Operand.func 16), args := #[Operand.tmp 19, Operand.const (Value.int IntKind.i64 4)], argTypes := #[40, 3] }, type := 3, pos := "entry.go:77", after := #[{ on := 3, ground := Ground.data }], guard := none } : Oper)) rfl (fun K hK => ?_) AllReadyH.nil
        go_simp
        go_wp2_with (go_at_call 16; obtain ⟨pn, hpn⟩ := I1.out.co; (with_reducible refine (KN.out _ _ hpn).mono ?_); rintro en w1 ⟨vn, hvn, rfl, hg1, hc1⟩; have I2 := Lib.hid (I1.out.step hg1 HK0.out hc1); clear hg1 hc1)
        refine hK.out _ _ ?_ (fun hHeld2 => ?_)
        · exact HKS.out _ I2.out.box
        clear hK K hHeld
        have hHeld := hHeld2
        clear hHeld2
        (try go_frame)
        refine wpAnyH_ready (rs := [5]) (by kernel_rfl) (by simp) ?_
        refine AllReadyH.cons (o := ({ dst := some 21, op := Op.call { callee := Callee.value (Operand.func 6), args := #[Operand.tmp 17, Operand.tmp 18, Operand.tmp 20], argTypes := #[40, 39, 3] }, type := 26, pos := "entry.go:77", after := #[{ on := 1, ground := Ground.data }, { on := 2, ground := Ground.data }, { on := 4, ground := Ground.data }, { on := 4, ground := Ground.chain }], guard := none } : Oper)) rfl (fun K hK => ?_) AllReadyH.nil
        go_simp
        go_wp2_with (go_at_call 6; (with_reducible refine (KE.out _ _ I2.out).mono ?_); rintro en w2 ⟨Ax, Ay, n1, c1, n2, c2, e, rfl, hg2, hc2, hE2⟩; have I3 := Lib.hid (I2.out.step hg2 HK0.out hc2); have E2 := Lib.hid hE2; clear hg2 hc2 hE2)
        refine hK.out _ _ ?_ (fun hHeld2 => ?_)
        · exact HKS.out _ I3.out.box
        clear hK K hHeld
        have hHeld := hHeld2
        clear hHeld2
        (try go_frame)
        refine wpAnyH_ready (rs := [6]) (by kernel_rfl) (by simp) ?_
        refine AllReadyH.cons (o := ({ dst := some 22, op := Op.buildSlice 44 1 #[(0, Operand.tmp 21)], type := 44, pos := "entry.go:77", after := #[{ on := 5, ground := Ground.data }], guard := none } : Oper)) rfl (fun K hK => ?_) AllReadyH.nil
        go_simp
        refine hK.out _ _ ?_ (fun hHeld2 => ?_)
        · exact HKS.out _ (((Below.refl w2.heap.size w2).alloc (Nat.le_refl _) _ |>.block _ (Array.getElem?_eq_some_iff.1 I3.out.box).1).trans I3.out.box)
        clear hK K hHeld
        have hHeld := hHeld2
        clear hHeld2
        (try go_frame)
        have C3 : Hid (EntsI s0 s1 s2 s3 s4 s5 s6 s7 s8 s9 K D l x w (w2.alloc (.cells #[.int .i64 e.table, .slice Ax n1 c1, .int .i64 e.prio, .int .i64 e.action, .slice Ay n2 c2] 26)) (.slice A xs.length c) xs) := Lib.hid (I3.out.step (grown_alloc w2 _ (some _)) HK0.out (by obtain ⟨p, h⟩ := I3.out.co; exact ⟨p, h.kept (row := none) (grown_alloc w2 _ none) (by simp) (fun _ => by simp)⟩))
        have E3 : Hid (EntK x (w.heap.size + 1) (Value.slice A xs.length c).ownBlock (w2.alloc (.cells #[.int .i64 e.table, .slice Ax n1 c1, .int .i64 e.prio, .int .i64 e.action, .slice Ay n2 c2] 26)) ⟨e, .slice Ax n1 c1, .slice Ay n2 c2⟩) := Lib.hid (E2.out.grown (grown_alloc w2 _ none) (fun k hk => by cases hk))
        have N3 := heap_alloc_new w2 (.cells #[.int .i64 e.table, .slice Ax n1 c1, .int .i64 e.prio, .int .i64 e.action, .slice Ay n2 c2] 26)
        refine wpAnyH_ready (rs := [7]) (by kernel_rfl) (by simp) ?_
        refine AllReadyH.cons (o := ({ dst := some 23, op := Op.call { callee := Callee.builtin Builtin.append, args := #[Operand.tmp 16, Operand.tmp 22], argTypes := #[44, 44] }, type := 44, pos := "entry.go:77", after := #[{ on := 0, ground := Ground.data }, { on := 6, ground := Ground.data }, { on := 5, ground := Ground.chain }], guard := none } : Oper)) rfl (fun K hK => ?_) AllReadyH.nil
        refine step_appQ rfl (.tmp 16) (.tmp 22) 44 (by rfl) (w.heap.size + 1) 26 i0 _ 5 72 Try.underlying44 HI0.out HZ0.out HY1.out HY2.out rfl (by decide) (.slice A xs.length c) xs.length _ (by rfl) C3.out.own (some ⟨w2.heap.size, 0, none⟩) 1 1 (EntX.cells ⟨e, .slice Ax n1 c1, .slice Ay n2 c2⟩) (by rfl) rfl (.inr ⟨_, rfl, World.news_of_block N3⟩) (entX_one _ rfl rfl) (by unfold maxLen; omega) (by omega) (by have := (Array.getElem?_eq_some_iff.1 C3.out.box).1; omega) ?_
        intro v3 w3 hO3 hg3 hn3
        obtain ⟨A3, c3, rfl⟩ := own_shapeE hO3
        have O3 := Lib.hid hO3
        have G3 := Lib.hid hg3
        have N4 := Lib.hid hn3
        have X3 : Hid (w3.heap[w.heap.size]? = some (.cells #[s0, s1, s2, s3, s4, s5, s6, s7, s8, s9] 39 (0, 0))) := Lib.hid ((hg3.block _ (Array.getElem?_eq_some_iff.1 C3.out.box).1 (fun h => by have := (World.ownsRow.lt C3.out.own _ h.symm).1; omega)).trans C3.out.box)
        clear hO3 hg3 hn3 N3
        refine hK.out _ _ ?_ (fun hHeld2 => ?_)
        · exact HKS.out _ X3.out
        clear hK K hHeld
        have hHeld := hHeld2
        clear hHeld2
        (try go_frame)
        refine wpAnyH_done (by kernel_rfl) ?_ _
        unfold QL
        refine wpOp_step rfl (fun K hK => ?_)
        clear hHeld
        go_simp
        refine hK _ _ ?_
        clear hK K
        go_wp2_with fail
        go_roundw
        case rel =>
          have hln : (xs ++ [EntX.mk e (.slice Ax n1 c1) (.slice Ay n2 c2)]).length = xs.length + 1 := by simp
          refine ⟨xs ++ [EntX.mk e (.slice Ax n1 c1) (.slice Ay n2 c2)], by omega, ⟨A3, c3, by rw [hln]⟩, ?_⟩
          have hob : ∀ k, (Value.slice A xs.length c).ownBlock = some k → w.heap.size + 1 ≤ k := fun k hk => (World.ownsRow.lt C3.out.own k hk).1
          have hKl := HK0.out
          refine ⟨?_, fun e1 he1 => ?_, ⟨G3.out.os.trans C3.out.gr.os, G3.out.tape.trans C3.out.gr.tape, G3.out.output.trans C3.out.gr.output, Nat.le_trans C3.out.gr.size G3.out.size, fun j hj hne => (G3.out.block j (Nat.lt_of_lt_of_le hj C3.out.gr.size) (fun h => by have := hob j h.symm; omega)).trans (C3.out.gr.block j hj hne)⟩, X3.out, ?_, by omega⟩
          · rw [hln, List.flatMap_append]
            have h7 := O3.out
            simpa using h7
          · rcases List.mem_append.1 he1 with h5 | h5
            · exact (C3.out.el e1 h5).app G3.out N4.out
            · rw [List.mem_singleton.1 h5]
              exact E3.out.app G3.out N4.out
          · obtain ⟨p, h⟩ := C3.out.co
            refine ⟨p, h.kept G3.out (fun h => ?_) (fun hl h => ?_)⟩
            · have := hob _ h; omega
            · have := hob _ h
              have := HD.out hl
              omega
        case measure => simp; omega
    · have j1 : ¬ (xs.length : Int) < (n : Int) := by omega
      have j2 : decide ((xs.length : Int) < (n : Int)) = false := decide_eq_false j1
      go_wp2_with fail
      refine bodyPost_ret (v := .slice A xs.length c) (by simp [results, Try.results7, go_sem]) rfl ?_
      exact ⟨_, xs, rfl, hxn, HI.out.own, HI.out.el, HI.out.gr, HI.out.co⟩
end Go.Proofs.Ythldelnibgdnaaa
