/- Layer 11: the program's index: New, Put, Get, Remove, Len. -/
import Derived.Test.YtldgjahpmlafgaaGreatQIdx
import Derived.BigQuiet
namespace Go.Proofs.YtldgjahpmlafgaaGreat
open Go.RowKit Go.Maps
def RetNew (w : World) (e : Ending) (w' : World) : Prop := e = .returned (.pointer (some ⟨w.heap.size, 0, none⟩)) ∧ Below w.heap.size w w' ∧ ∀ f, IdxAt w' w.heap.size none 0 [] f
set_option maxRecDepth 100000 in
set_option maxHeartbeats 1000000 in
theorem qx_New (w : World) : Calls Tryz.prog 125 #[] w (RetNew w) := by
  go_enter Tryz.func125, Tryz.ntmps125
  go_wp2
  go_ret
  refine ⟨rfl, (Below.refl _ _).alloc (Nat.le_refl _) _, fun f => ⟨List.Pairwise.nil, by simp, by simp, by simp, fun _ => rfl, fun b e => by cases e⟩⟩
/-- what an index says of a point, in whatever world that leaves it alone -/
theorem IdxAt.look {w : World} {X k : Nat} {m : Option Nat} {pts : List Pt} {f : Pt → Int} (h : IdxAt w X m k pts f) (p : Pt) : (Instr.lookup 248 (.map m) (ptV p) true).run Tryz.prog w = .ok (.tuple #[.int .i64 (if p ∈ pts then f p else 0), .bool (decide (p ∈ pts))]) w := by
  cases m with
  | none =>
    rw [h.no rfl]
    exact Maps.look_nil true lawPt Tryz.underlying248 (zeroInt w) (keyPt p)
  | some b => exact (h.yes b rfl).2.look p
def RetGet (pts : List Pt) (f : Pt → Int) (p : Pt) (w : World) (e : Ending) (w' : World) : Prop := e = .returned (.tuple #[.int .i64 (if p ∈ pts then f p else 0), .bool (decide (p ∈ pts))]) ∧ Below w.heap.size w w'
set_option maxRecDepth 100000 in
set_option maxHeartbeats 1000000 in
theorem qx_Get {w : World} {X k : Nat} {m : Option Nat} {pts : List Pt} {f : Pt → Int} (h : IdxAt w X m k pts f) (p : Pt) : Calls Tryz.prog 240 #[.pointer (some ⟨X, 0, none⟩), ptV p] w (RetGet pts f p w) := by
  have hc := h.c
  have hc2 := fun o => (h.below (((Below.refl _ w).alloc (Nat.le_refl _) o).drew)).c
  have hlk := fun o => (h.below ((Below.refl _ w).alloc (Nat.le_refl _) o)).look p
  have hlk2 := fun o => (h.below (((Below.refl _ w).alloc (Nat.le_refl _) o).drew)).look p
  generalize hv : (if p ∈ pts then f p else 0) = v at hlk hlk2
  generalize hb : decide (p ∈ pts) = b at hlk hlk2
  unfold RetGet
  rw [hv, hb]
  unfold ptV at hlk hlk2 ⊢
  clear h hv hb
  go_enter Tryz.func240, Tryz.ntmps240
  go_wp2_with fail
  go_region
  all_goals go_wp2_with fail
  all_goals refine bodyPost_ret (v := .tuple #[.int .i64 v, .bool b]) (by simp [results, Tryz.results240, go_sem]) rfl ?_
  all_goals exact ⟨rfl, ((Below.refl _ w).alloc (Nat.le_refl _) _).drew⟩
set_option maxRecDepth 100000 in
set_option maxHeartbeats 1000000 in
theorem qx_GetNil (p : Pt) (w : World) : Calls Tryz.prog 240 #[.pointer none, ptV p] w fun e w' => e = .returned (.tuple #[.int .i64 0, .bool false]) ∧ Below w.heap.size w w' := by
  unfold ptV
  go_enter Tryz.func240, Tryz.ntmps240
  go_wp2_with fail
  refine bodyPost_ret (v := .tuple #[.int .i64 0, .bool false]) (by simp [results, Tryz.results240, go_sem]) rfl ?_
  exact ⟨rfl, (Below.refl _ w).alloc (Nat.le_refl _) _⟩
/-- the index behind a store into its map -/
theorem IdxAt.stored {w w' : World} {X k b : Nat} {pts : List Pt} {f : Pt → Int} (h : IdxAt w X (some b) k pts f) {pts' : List Pt} {f' : Pt → Int} {k' : Nat} (ha : Asc pts') (hp : PMap w' b k' pts' f') (ht : w.mapTurned w' b) : IdxAt w' X (some b) k' pts' f' := by
  have hg := ht.grown
  have hx := (h.yes b rfl).1
  have hX : some X ≠ some b := fun e => hx (by injection e with e; exact e.symm)
  exact ⟨ha, Nat.lt_of_lt_of_le h.lt hg.size, by rw [World.frozen?_of_block (a := ⟨X, 0, none⟩) (hg.block X h.lt hX)]; exact h.froz, by rw [World.cell?_of_block (a := ⟨X, 0, none⟩) (hg.block X h.lt hX)]; exact h.c, fun e => (by cases e), fun b' e => (by injection e with e; subst e; exact ⟨hx, hp⟩)⟩
set_option maxRecDepth 100000 in
theorem map_some (b : Nat) (w : World) : (binOp .eql 248 (.map (some b)) (.map none)).run Tryz.prog w = .ok (.bool false) w := by
  kernel_rfl
set_option maxRecDepth 100000 in
theorem map_none (w : World) : (binOp .eql 248 (.map none) (.map none)).run Tryz.prog w = .ok (.bool true) w := by
  kernel_rfl
theorem blk_cellQ {w : World} {k : Nat} {cs : Array Value} {T : TypeId} {fr : Nat × Nat} (h : w.heap[k]? = some (.cells cs T fr)) (j : Nat) (v : Value) (hj : cs[j]? = some v) : w.cell? ⟨k, j, none⟩ = some v := by
  simp [World.cell?, h, hj]
/-- a map is made and laid into the box -/
structure MadeM (w : World) (X : Nat) (o : Obj) (W2 : World) : Prop where
  far : ∀ j, j < w.heap.size → j ≠ X → W2.heap[j]? = w.heap[j]?
  box : W2.heap[w.heap.size]? = some o
  size : W2.heap.size = w.heap.size + 2
  os : W2.os = w.os
  tape : W2.tape = w.tape
  output : W2.output = w.output
theorem IdxAt.madeM {w : World} {X k : Nat} {pts : List Pt} {f : Pt → Int} (h : IdxAt w X none k pts f) (o : Obj) : MadeM w X o (((w.alloc o).alloc (.map #[] 0)).setCell ⟨X, 0, none⟩ (.map (some (w.heap.size + 1)))) ∧ IdxAt (((w.alloc o).alloc (.map #[] 0)).setCell ⟨X, 0, none⟩ (.map (some (w.heap.size + 1)))) X (some (w.heap.size + 1)) k [] f := by
  have hb4 := (((Below.refl _ w).alloc (Nat.le_refl _) o).alloc (by simp) (.map #[] 0))
  have h4 := h.below hb4
  have hX := h.lt
  have hg := grown_set ((w.alloc o).alloc (.map #[] 0)) X 0 (.map (some (w.heap.size + 1)))
  have hsz : ((w.alloc o).alloc (.map #[] 0)).heap.size = w.heap.size + 2 := by simp
  refine ⟨⟨fun j hj hne => ?_, ?_, ?_, rfl, rfl, rfl⟩, ?_⟩
  · exact (hg.block j (by omega) fun e => hne (by injection e)).trans (hb4.block j hj)
  · rw [hg.block w.heap.size (by omega) fun e => by injection e with e; omega, heap_alloc_old _ _ (by simp), heap_alloc_new]
  · simp
  · have hm0 := PMap.made (w.alloc o) f
    rw [show (w.alloc o).heap.size = w.heap.size + 1 by simp] at hm0
    obtain ⟨D, h1, h2⟩ := hm0
    refine ⟨List.Pairwise.nil, by simp; omega, ?_, ?_, fun e => (by cases e), fun b e => ?_⟩
    · rw [World.frozen?_setCell]
      exact h4.froz
    · exact World.cell?_setCell_same _ _ _ h4.c
    · injection e with e
      subst e
      exact ⟨by omega, PMap.mono ⟨D, h1.setCell (a := ⟨X, 0, none⟩) (by simp; omega) _, h2⟩ (Nat.zero_le _)⟩
theorem IdxAt.drewQ {w : World} {X k : Nat} {m : Option Nat} {pts : List Pt} {f : Pt → Int} (h : IdxAt w X m k pts f) : IdxAt w.drew X m k pts f := ⟨h.asc, h.lt, h.froz, h.c, h.no, fun b e => ⟨(h.yes b e).1, (h.yes b e).2.drew⟩⟩
def RetPut (X k : Nat) (m : Option Nat) (pts : List Pt) (f : Pt → Int) (p : Pt) (id : Int) (w : World) (e : Ending) (w' : World) : Prop :=
  (p ∈ pts ∧ e = .returned (.bool false) ∧ Below w.heap.size w w') ∨ (p ∉ pts ∧ e = .returned (.bool true) ∧ ∃ m', (m' = m ∨ ∃ b, m' = some b ∧ w.heap.size ≤ b) ∧ IdxAt w' X m' (k + 1) (putL p pts) (updF f p id) ∧ Turns w w' X m')
set_option maxRecDepth 100000 in
set_option maxHeartbeats 1000000 in
theorem qx_Put {w : World} {X k : Nat} {m : Option Nat} {pts : List Pt} {f : Pt → Int} (h : IdxAt w X m k pts f) (hk : k < 100000) (p : Pt) (id : Int) (hid : (Lit.int .i64 id).wf = true) : Calls Tryz.prog 242 #[.pointer (some ⟨X, 0, none⟩), ptV p, .int .i64 id] w (RetPut X k m pts f p id w) := by
  have hc2 := fun o => (h.below (((Below.refl _ w).alloc (Nat.le_refl _) o).drew)).c
  have hlk2 := fun o => (h.below (((Below.refl _ w).alloc (Nat.le_refl _) o).drew)).look p
  have H := Lib.hid h
  have hms := map_some
  have hmn := map_none
  by_cases hp : p ∈ pts
  · rw [if_pos hp, decide_eq_true hp] at hlk2
    generalize f p = v at hlk2
    unfold ptV at hlk2 ⊢
    have HP := Lib.hid hp
    clear h hp
    go_enter Tryz.func242, Tryz.ntmps242
    go_wp2_with fail
    go_region
    all_goals go_wp2_with fail
    all_goals go_ret
    all_goals exact .inl ⟨HP.out, rfl, ((Below.refl _ w).alloc (Nat.le_refl _) _).drew⟩
  · rw [if_neg hp, decide_eq_false hp] at hlk2
    have HP := Lib.hid hp
    cases m with
    | some b =>
      have hb1 := ((Below.refl _ w).alloc (Nat.le_refl _) (.cells #[.int .u64 (hi p.a), .int .u64 (lo p.a), .int .u64 (hi p.b), .int .u64 (lo p.b), .int .u64 (hi p.c), .int .u64 (lo p.c), .int .u64 (hi p.d), .int .u64 (lo p.d)] 51)).drew.drew
      have h3 := h.below hb1
      have hc3 := h3.c
      obtain ⟨w3, hrun3, hm3, ht3⟩ := (h3.yes b rfl).2.put p hp id hid (by unfold maxLen; omega)
      have H3 := Lib.hid h3
      have HM := Lib.hid hm3
      have HT := Lib.hid ht3
      have HB := Lib.hid hb1
      unfold ptV at hlk2 hrun3 ⊢
      clear h hp hm3 ht3 hb1 h3
      go_enter Tryz.func242, Tryz.ntmps242
      go_wp2_with fail
      go_region
      all_goals go_wp2_with fail
      all_goals go_region
      all_goals go_wp2_with fail
      all_goals go_ret
      all_goals exact .inr ⟨HP.out, rfl, some b, .inl rfl, H3.out.stored (putL_asc p pts H.out.asc HP.out) HM.out HT.out, (Turns.of_below HB.out).andThen (Turns.of_grown HT.out.grown (.inl rfl)) (fun j e => .inl e)⟩
    | none =>
      have hpt := h.no rfl
      subst hpt
      have hb2 := (((Below.refl _ w).alloc (Nat.le_refl _) (.cells #[.int .u64 (hi p.a), .int .u64 (lo p.a), .int .u64 (hi p.b), .int .u64 (lo p.b), .int .u64 (hi p.c), .int .u64 (lo p.c), .int .u64 (hi p.d), .int .u64 (lo p.d)] 51)).alloc (by simp) (.map #[] 0)).drew
      have h2 := H.out.below hb2
      have hc3 := h2.c
      have hf3 := h2.froz
      have hmm := @run_makeMap Tryz.prog
      obtain ⟨hM, hI⟩ := h.madeM (.cells #[.int .u64 (hi p.a), .int .u64 (lo p.a), .int .u64 (hi p.b), .int .u64 (lo p.b), .int .u64 (hi p.c), .int .u64 (lo p.c), .int .u64 (hi p.d), .int .u64 (lo p.d)] 51)
      obtain ⟨w3, hrun3, hm3, ht3⟩ := (hI.drewQ.drewQ.yes _ rfl).2.put p hp id hid (by unfold maxLen; omega)
      have hc5 := hI.drewQ.drewQ.c
      have q0 := blk_cellQ hM.box 0 _ rfl
      have q1 := blk_cellQ hM.box 1 _ rfl
      have q2 := blk_cellQ hM.box 2 _ rfl
      have q3 := blk_cellQ hM.box 3 _ rfl
      have q4 := blk_cellQ hM.box 4 _ rfl
      have q5 := blk_cellQ hM.box 5 _ rfl
      have q6 := blk_cellQ hM.box 6 _ rfl
      have q7 := blk_cellQ hM.box 7 _ rfl
      have HI := Lib.hid hI
      have HM := Lib.hid hm3
      have HT := Lib.hid ht3
      have HN := Lib.hid hM
      unfold ptV at hlk2 hrun3 ⊢
      clear h hp hb2 h2 hm3 ht3 hI hM
      go_enter Tryz.func242, Tryz.ntmps242
      go_wp2_with fail
      go_region
      all_goals go_wp2_with fail
      all_goals generalize hW : ((w.alloc _).alloc (Obj.map #[] 0)).setCell _ _ = W2 at *
      all_goals clear hW
      all_goals go_region
      all_goals go_wp2_with fail
      all_goals go_ret
      all_goals exact .inr ⟨HP.out, rfl, some (w.heap.size + 1), .inr ⟨_, rfl, by omega⟩, HI.out.drewQ.drewQ.stored (putL_asc p [] List.Pairwise.nil HP.out) HM.out HT.out, ⟨HT.out.grown.os.trans HN.out.os, HT.out.grown.tape.trans HN.out.tape, HT.out.grown.output.trans HN.out.output, by have := HT.out.grown.size; have h7 := HN.out.size; simp at this; omega, fun j hj h1 h2 => (HT.out.grown.block j (by have h7 := HN.out.size; simp; omega) h2).trans (HN.out.far j hj h1)⟩⟩
def RetRem (X k : Nat) (m : Option Nat) (pts : List Pt) (f : Pt → Int) (p : Pt) (w : World) (e : Ending) (w' : World) : Prop :=
  (p ∉ pts ∧ e = .returned (.bool false) ∧ Below w.heap.size w w') ∨ (p ∈ pts ∧ e = .returned (.bool true) ∧ IdxAt w' X m k (remL p pts) f ∧ Turns w w' X m)
set_option maxRecDepth 100000 in
set_option maxHeartbeats 1000000 in
theorem qx_Remove {w : World} {X k : Nat} {m : Option Nat} {pts : List Pt} {f : Pt → Int} (h : IdxAt w X m k pts f) (p : Pt) : Calls Tryz.prog 244 #[.pointer (some ⟨X, 0, none⟩), ptV p] w (RetRem X k m pts f p w) := by
  have hg := fun o => qx_Get (h.below ((Below.refl _ w).alloc (Nat.le_refl _) o)) p
  have H := Lib.hid h
  have HP : Hid (Below w.heap.size w (w.alloc (.cells #[.int .u64 (hi p.a), .int .u64 (lo p.a), .int .u64 (hi p.b), .int .u64 (lo p.b), .int .u64 (hi p.c), .int .u64 (lo p.c), .int .u64 (hi p.d), .int .u64 (lo p.d)] 51))) := Lib.hid ((Below.refl _ w).alloc (Nat.le_refl _) _)
  by_cases hp : p ∈ pts
  · have hpm : ∃ b, m = some b := by
      cases m with
      | none => have := h.no rfl; subst this; cases hp
      | some b => exact ⟨b, rfl⟩
    obtain ⟨b, rfl⟩ := hpm
    have HQ := Lib.hid hp
    unfold RetGet at hg
    rw [if_pos hp, decide_eq_true hp] at hg
    clear h hp
    unfold ptV at hg ⊢
    go_enter Tryz.func244, Tryz.ntmps244
    go_wp2_with ((with_reducible refine (hg _).mono ?_); rintro e w1 ⟨rfl, hb1⟩; have HB1 := Lib.hid hb1; clear hb1)
    have hsz1 := HB1.out.size
    rw [show (w.alloc (.cells #[.int .u64 (hi p.a), .int .u64 (lo p.a), .int .u64 (hi p.b), .int .u64 (lo p.b), .int .u64 (hi p.c), .int .u64 (lo p.c), .int .u64 (hi p.d), .int .u64 (lo p.d)] 51)).heap.size = w.heap.size + 1 by simp] at hsz1
    have hb := HP.out.trans (HB1.out.mono (by simp))
    have hI := (H.out.below hb).drewQ
    have hbx : w1.drew.heap[w.heap.size]? = some (.cells #[.int .u64 (hi p.a), .int .u64 (lo p.a), .int .u64 (hi p.b), .int .u64 (lo p.b), .int .u64 (hi p.c), .int .u64 (lo p.c), .int .u64 (hi p.d), .int .u64 (lo p.d)] 51) := (HB1.out.block w.heap.size (by simp)).trans (heap_alloc_new w _)
    have hc5 := hI.c
    have q0 := blk_cellQ hbx 0 _ rfl
    have q1 := blk_cellQ hbx 1 _ rfl
    have q2 := blk_cellQ hbx 2 _ rfl
    have q3 := blk_cellQ hbx 3 _ rfl
    have q4 := blk_cellQ hbx 4 _ rfl
    have q5 := blk_cellQ hbx 5 _ rfl
    have q6 := blk_cellQ hbx 6 _ rfl
    have q7 := blk_cellQ hbx 7 _ rfl
    obtain ⟨w3, hrun3, hm3, ht3⟩ := (hI.yes _ rfl).2.del H.out.asc p HQ.out 0
    have hrun : ∀ ty, (Builtin.delete_ #[248, 51] ty #[.map (some b), ptV p]).run Tryz.prog w1.drew = .ok (.tuple #[]) w3 := fun ty => hrun3
    have HI := Lib.hid hI
    have HM := Lib.hid hm3
    have HT := Lib.hid ht3
    have HB := Lib.hid hb
    unfold ptV at hrun
    clear hI hm3 ht3 hbx hrun3 hb hg
    go_region
    all_goals go_wp2_with fail
    all_goals go_ret
    all_goals exact .inr ⟨HQ.out, rfl, HI.out.stored (remL_asc p pts H.out.asc) HM.out HT.out, (Turns.of_below HB.out.drew).andThen (Turns.of_grown HT.out.grown (.inl rfl)) (fun j e => .inl e)⟩
  · have HQ := Lib.hid hp
    unfold RetGet at hg
    rw [if_neg hp, decide_eq_false hp] at hg
    clear h hp
    unfold ptV at hg ⊢
    go_enter Tryz.func244, Tryz.ntmps244
    go_wp2_with ((with_reducible refine (hg _).mono ?_); rintro e w1 ⟨rfl, hb1⟩; have HB1 := Lib.hid hb1; clear hb1)
    go_ret
    exact .inl ⟨HQ.out, rfl, HP.out.trans (HB1.out.mono (by simp))⟩
end Go.Proofs.YtldgjahpmlafgaaGreat
