/- Layer 12: the program's Put. -/
import Derived.Test.YtmlocfojmncghaaUMore
import Derived.Maps.RangeWalk
namespace Go.Proofs.Ytmlocfojmncghaa
open Go.RowKit Go.Shelf
attribute [local go_sem] Oper.semAt_some
/-- the counts with one more prefix -/
def bmU (c : Pth → Nat) (q : Pth) : Pth → Nat := fun r => c r + if r <+: q then 1 else 0
theorem bmU_nil (c : Pth → Nat) : updU c [] (c [] + 1) = bmU c [] := by
  funext r
  unfold bmU
  by_cases e : r = []
  · subst e; rw [updU_same, if_pos (List.prefix_refl _)]
  · rw [updU_other _ _ e, if_neg (fun h => e (List.prefix_nil.1 h))]; rfl
theorem not_preU (p : Pth) (x : Bool) : ¬ (p ++ [x] <+: p) := fun h => by
  have := h.length_le
  simp at this
  omega
theorem bmU_at (c : Pth → Nat) (p : Pth) (x : Bool) : bmU c p (p ++ [x]) = c (p ++ [x]) := by
  unfold bmU
  rw [if_neg (not_preU p x)]; rfl
theorem bmU_at2 (c : Pth → Nat) (p : Pth) (x y : Bool) : bmU c p (p ++ [x] ++ [y]) = c (p ++ [x] ++ [y]) := by
  unfold bmU
  rw [if_neg (fun h => by have := h.length_le; simp at this; omega)]; rfl
theorem bmU_snoc (c : Pth → Nat) (p : Pth) (x : Bool) : updU (bmU c p) (p ++ [x]) (bmU c p (p ++ [x]) + 1) = bmU c (p ++ [x]) := by
  funext r
  by_cases e : r = p ++ [x]
  · subst e
    rw [updU_same, bmU_at]
    unfold bmU
    rw [if_pos (List.prefix_refl _)]
  · rw [updU_other _ _ e]
    unfold bmU
    by_cases h : r <+: p
    · rw [if_pos h, if_pos (h.trans (List.prefix_append _ _))]
    · rw [if_neg h, if_neg (fun h2 => by
        rcases List.prefix_concat_iff.1 h2 with h3 | h3
        · exact e h3
        · exact h h3)]
/-- halfway through Put -/
structure PutI (w0 : World) (X bits : Nat) (A : Pth → Option Nat) (c : Pth → Nat) (th : Pth → Bool) (id : Pth → Int) (N Bt Ba : Nat) (pre : Pth) (W : World) : Prop where
  ex : ∃ A' id' N' b, TrieM W X bits A' (bmU c pre) th id' N' ∧ A' pre = some b ∧ W.heap[Ba]? = some (.cells #[.pointer (some ⟨b, 0, none⟩)] 126 (0, 0)) ∧ N' ≤ N + pre.length + 1 ∧ (∀ p b', A' p = some b' → A p = some b' ∨ w0.heap.size ≤ b') ∧ (∀ p, th p = true → id' p = id p)
  fr : FrU (FtU X A) w0 W
  bt : W.heap[Bt]? = some (.cells #[.pointer (some ⟨X, 0, none⟩)] 54 (0, 0))
theorem PutI.turn {w0 : World} {X bits : Nat} {A : Pth → Option Nat} {c : Pth → Nat} {th : Pth → Bool} {id : Pth → Int} {N Bt Ba : Nat} {pre : Pth} {W W' : World} {row : Option Nat} (h : PutI w0 X bits A c th id N Bt Ba pre W) (hg : W.grownBy W' row) (hr : ∀ r, row = some r → w0.heap.size ≤ r ∧ ∃ o : Obj, W.heap[r]? = some o ∧ o.isCells = false) : PutI w0 X bits A c th id N Bt Ba pre W' := by
  have key : ∀ (j : Nat) (cs : Array Value) (T : TypeId) (fr : Nat × Nat), W.heap[j]? = some (.cells cs T fr) → W'.heap[j]? = some (.cells cs T fr) := fun j cs T fr hj => by
    refine (hg.block j (heap_ltU hj) (fun e => ?_)).trans hj
    obtain ⟨_, o, ho, hc⟩ := hr j e.symm
    rw [hj] at ho; cases ho; cases hc
  obtain ⟨⟨A', id', N', b, h1, h2, h3, h4⟩, hf, hb⟩ := h
  refine ⟨⟨A', id', N', b, ⟨key _ _ _ _ h1.box, fun p b e => key _ _ _ _ (h1.node p b e), h1.inj, h1.ne, h1.has, h1.num⟩, h2, key _ _ _ _ h3, h4⟩, ⟨hg.os.trans hf.os, hg.tape.trans hf.tape, hg.output.trans hf.output, Nat.le_trans hf.size hg.size, fun j hj hn => ?_⟩, key _ _ _ _ hb⟩
  exact (hg.block j (Nat.lt_of_lt_of_le hj hf.size) (fun e => by have := (hr j e.symm).1; omega)).trans (hf.block j hj hn)
set_option maxRecDepth 100000 in
set_option maxHeartbeats 4000000 in
theorem ut_putNo {w : World} {X bits N : Nat} {A : Pth → Option Nat} {c : Pth → Nat} {th : Pth → Bool} {id : Pth → Int} (hT : TrieM w X bits A c th id N) (hW : CWf c th) (hb8 : bits ≤ 128) (v : Nat) (hv : v < 2 ^ 128) (n i0 : Int) (hp : preU bits v n → th (pthU bits v n.toNat) = true) :
    Calls Try.prog 21 #[.pointer (some ⟨X, 0, none⟩), .agg #[.int .u64 (hi v), .int .u64 (lo v)], .int .i64 n, .int .i64 i0] w (RetX (.bool false) w) := by
  obtain ⟨W0, hW0⟩ : ∃ W0, W0 = ((w.alloc (.cells #[.pointer (some ⟨X, 0, none⟩)] 54)).alloc (.cells #[.int .u64 (hi v), .int .u64 (lo v)] 29)) := ⟨_, rfl⟩
  have hB0 : Below w.heap.size w W0 := by rw [hW0]; exact ((Below.refl _ w).alloc (Nat.le_refl _) _).alloc (by simp) _
  have hz0 : W0.heap.size = w.heap.size + 2 := by rw [hW0]; simp
  have a0 : W0.heap[w.heap.size]? = some (.cells #[.pointer (some ⟨X, 0, none⟩)] 54 (0, 0)) := by
    rw [hW0]; exact (Below.heap_alloc _ _ _ (by simp)).trans (heap_alloc_new _ _)
  have a1 : W0.heap[w.heap.size + 1]? = some (.cells #[.int .u64 (hi v), .int .u64 (lo v)] 29 (0, 0)) := by
    have h := heap_alloc_new (w.alloc (.cells #[.pointer (some ⟨X, 0, none⟩)] 54)) (.cells #[.int .u64 (hi v), .int .u64 (lo v)] 29)
    rw [World.size_alloc] at h
    rw [hW0]; exact h
  have HW0 := Lib.hid hW0
  have HB0 := Lib.hid hB0
  have hc0 := blk_cell a0 0 _ rfl
  have hc1 := blk_cell a1 0 _ rfl
  have hc2 := blk_cell a1 1 _ rfl
  rw [hW0] at hc0 hc1 hc2
  clear hW0
  have hcall := ut_isPrefix (hT.below hB0).box v hv n
  by_cases hq : preU bits v n
  · rw [decide_eq_true hq] at hcall
    have hth := hp hq
    have hc := hW.thc _ hth
    obtain ⟨b, _, hA⟩ := hT.lv hc
    have hfn : ∀ w1, Below w.heap.size w w1 → Calls Try.prog 63 #[.pointer (some ⟨X, 0, none⟩), .agg #[.int .u64 (hi v), .int .u64 (lo v)], .int .i64 n] w1 (RetX (.pointer (some ⟨b, 0, none⟩)) w1) := fun w1 h1 => by
      have h := ut_find (hT.below h1) hW hb8 v hv n
      unfold fndU at h
      rw [if_pos ⟨hq, hth⟩, hA] at h
      exact h
    have HF := Lib.hid hfn
    clear hp hq hth hc hA hfn hT
    go_enter Try.func21, Try.ntmps21
    go_wp2_with (first
      | (go_at_call 62; rw [← HW0.out]; (with_reducible refine hcall.mono ?_); rintro e w1 ⟨rfl, hb1⟩; have q0 := (hb1.block _ (heap_ltU a0)).trans a0; have q1 := (hb1.block _ (heap_ltU a1)).trans a1; have y0 := blk_cell q0 0 _ rfl; have y1 := blk_cell q1 0 _ rfl; have y2 := blk_cell q1 1 _ rfl; have HB1 := Lib.hid (HB0.out.trans (hb1.mono HB0.out.size)); clear hcall)
      | (go_at_call 63; (with_reducible refine (HF.out _ HB1.out).mono ?_); rintro e w2 ⟨rfl, hb2⟩))
    go_ret
    exact ⟨rfl, HB1.out.trans (hb2.mono HB1.out.size)⟩
  · rw [decide_eq_false hq] at hcall
    clear hp hT
    go_enter Try.func21, Try.ntmps21
    go_wp2_with (first
      | (go_at_call 62; rw [← HW0.out]; (with_reducible refine hcall.mono ?_); rintro e w1 ⟨rfl, hb1⟩; have HB1 := Lib.hid (HB0.out.trans (hb1.mono HB0.out.size)); clear hcall))
    go_ret
    exact ⟨rfl, HB1.out⟩
/-- what Put leaves where it returns true -/
def PutU (w : World) (X bits : Nat) (A : Pth → Option Nat) (c : Pth → Nat) (th : Pth → Bool) (id : Pth → Int) (N : Nat) (q : Pth) (i0 : Int) (e : Ending) (w' : World) : Prop :=
  e = .returned (.bool true) ∧ FrU (FtU X A) w w' ∧ ∃ A' id' N', TrieM w' X bits A' (bmU c q) (updU th q true) id' N' ∧ N' ≤ N + q.length + 1 ∧ (∀ p b', A' p = some b' → A p = some b' ∨ w.heap.size ≤ b') ∧ id' q = i0 ∧ (∀ p, p ≠ q → th p = true → id' p = id p)
set_option maxRecDepth 100000 in
set_option maxHeartbeats 4000000 in
theorem ut_putIn {w : World} {X bits N : Nat} {A : Pth → Option Nat} {c : Pth → Nat} {th : Pth → Bool} {id : Pth → Int} (hT : TrieM w X bits A c th id N) (hW : CWf c th) (hb8 : bits ≤ 128) (hcb : ∀ r, c r < 1000000) (hN : N < 1000000) (v : Nat) (hv : v < 2 ^ 128) (m : Nat) (i0 : Int) (hp : preU bits v m) (ht0 : th (pthU bits v m) = false) :
    Calls Try.prog 21 #[.pointer (some ⟨X, 0, none⟩), .agg #[.int .u64 (hi v), .int .u64 (lo v)], .int .i64 m, .int .i64 i0] w (PutU w X bits A c th id N (pthU bits v m) i0) := by
  refine (callsIn_wide (n := 9)).1 ?_
  refine callsIn_of_wp_marks Try.func21 rfl trivial ?_ rfl
  simp only [Try.ntmps21, List.size_toArray, List.length_cons, List.length_nil, Nat.reduceAdd, Nat.reduceSub, Array.replicate_succ, Array.replicate_zero, List.push_toArray, List.append_toArray, List.nil_append, List.cons_append]
  obtain ⟨W0, hW0⟩ : ∃ W0, W0 = ((w.alloc (.cells #[.pointer (some ⟨X, 0, none⟩)] 54)).alloc (.cells #[.int .u64 (hi v), .int .u64 (lo v)] 29)) := ⟨_, rfl⟩
  have hB0 : Below w.heap.size w W0 := by rw [hW0]; exact ((Below.refl _ w).alloc (Nat.le_refl _) _).alloc (by simp) _
  have hz0 : W0.heap.size = w.heap.size + 2 := by rw [hW0]; simp
  have a0 : W0.heap[w.heap.size]? = some (.cells #[.pointer (some ⟨X, 0, none⟩)] 54 (0, 0)) := by
    rw [hW0]; exact (Below.heap_alloc _ _ _ (by simp)).trans (heap_alloc_new _ _)
  have a1 : W0.heap[w.heap.size + 1]? = some (.cells #[.int .u64 (hi v), .int .u64 (lo v)] 29 (0, 0)) := by
    have h := heap_alloc_new (w.alloc (.cells #[.pointer (some ⟨X, 0, none⟩)] 54)) (.cells #[.int .u64 (hi v), .int .u64 (lo v)] 29)
    rw [World.size_alloc] at h
    rw [hW0]; exact h
  have HW0 := Lib.hid hW0
  have HB0 := Lib.hid hB0
  have hc0 := blk_cell a0 0 _ rfl
  have hc1 := blk_cell a1 0 _ rfl
  have hc2 := blk_cell a1 1 _ rfl
  rw [hW0] at hc0 hc1 hc2
  clear hW0
  have hcall := ut_isPrefix (hT.below hB0).box v hv m
  rw [decide_eq_true hp] at hcall
  have hmb : m ≤ bits := by have := hp.2.1; omega
  have hfn : ∀ w1, Below w.heap.size w w1 → Calls Try.prog 63 #[.pointer (some ⟨X, 0, none⟩), .agg #[.int .u64 (hi v), .int .u64 (lo v)], .int .i64 m] w1 (RetX (.pointer none) w1) := fun w1 h1 => by
    have h := ut_find (hT.below h1) hW hb8 v hv m
    unfold fndU at h
    rw [Int.toNat_natCast, if_neg (fun h => by rw [ht0] at h; cases h.2)] at h
    exact h
  have HF := Lib.hid hfn
  clear hfn hp
  gi_wp2_with (refine ⟨trivial, ?_⟩; first
    | (gi_at_call 62; rw [← HW0.out]; refine (callsIn_wide.2 hcall).mono ?_; rintro e w1 ⟨rfl, hb1⟩; have q0 := (hb1.block _ (heap_ltU a0)).trans a0; have q1 := (hb1.block _ (heap_ltU a1)).trans a1; have y0 := blk_cell q0 0 _ rfl; have y1 := blk_cell q1 0 _ rfl; have y2 := blk_cell q1 1 _ rfl; have HB1 := Lib.hid (HB0.out.trans (hb1.mono HB0.out.size)); clear hcall)
    | (gi_at_call 63; refine (callsIn_wide.2 (HF.out _ HB1.out)).mono ?_; rintro e w2 ⟨rfl, hb2⟩))
  have hb02 : Below w.heap.size w w2 := HB1.out.trans (hb2.mono HB1.out.size)
  have hs1 := hb1.size
  have hs2 := hb2.size
  have r0 := (hb2.block _ (heap_ltU q0)).trans q0
  have r1 := (hb2.block _ (heap_ltU q1)).trans q1
  have hT2 := hT.below hb02
  clear HB0 HB1 HF HW0 a0 a1 q0 q1 y0 y1 y2 hc0 hc1 hc2 hB0
  -- region 3: the root
  have c0 := blk_cell r0 0 _ rfl
  have hX2 := hT2.box
  have c1 := blk_cell hX2 1 _ rfl
  have hmr := ut_moreRoot (hT2.aside (w' := w2.drew) (fun _ _ => rfl)) (fun h => by cases ht : th [] with | false => rfl | true => (have := hW.thc _ ht; omega)) (fun h y => by have := hW.mono [] y; omega) (by have := hcb []; omega) (by omega)
  unfold ptU at hmr c1
  have hnb := hT2.notA r0 (by simp)
  refine wpIn_wide.2 ?_
  refine wp_region_noPanic ?_
  refine wp_region_held_drew (S := fun w' => w'.cell? ⟨w.heap.size, 0, none⟩ = some (.pointer (some ⟨X, 0, none⟩))) (by kernel_rfl) c0 (fun hHeld => ?_)
  refine wpAnyH_take (i := 0) (v := ?_) rfl (by kernel_rfl) (by kernel_rfl) (by kernel_rfl) (fun _ _ _ h => h) (Or.inl ⟨by rfl, ?_⟩) hHeld ?_
  rotate_left
  · (intro w1 hSw; (try dsimp only at hSw); (try obtain ⟨sA, sB⟩ := hSw); go_simp; all_goals with_reducible rfl)
  (try go_frame)
  refine wpAnyH_take (i := 1) (v := ?_) rfl (by kernel_rfl) (by kernel_rfl) (by kernel_rfl) (fun _ _ _ h => h) (Or.inl ⟨by rfl, ?_⟩) hHeld ?_
  rotate_left
  · (intro w1 hSw; (try dsimp only at hSw); (try obtain ⟨sA, sB⟩ := hSw); go_simp; all_goals with_reducible rfl)
  (try go_frame)
  refine wpAnyH_take (i := 2) (v := ?_) rfl (by kernel_rfl) (by kernel_rfl) (by kernel_rfl) (fun _ _ _ h => h) (Or.inl ⟨by rfl, ?_⟩) hHeld ?_
  rotate_left
  · (intro w1 hSw; (try dsimp only at hSw); (try obtain ⟨sA, sB⟩ := hSw); go_simp; all_goals with_reducible rfl)
  (try go_frame)
  refine wpAnyH_take (i := 3) (v := ?_) rfl (by kernel_rfl) (by kernel_rfl) (by kernel_rfl) (fun _ _ _ h => h) (Or.inl ⟨by rfl, ?_⟩) hHeld ?_
  rotate_left
  · (intro w1 hSw; (try dsimp only at hSw); (try obtain ⟨sA, sB⟩ := hSw); go_simp; all_goals with_reducible rfl)
  (try go_frame)
  refine wpAnyH_take (i := 4) (v := ?_) rfl (by kernel_rfl) (by kernel_rfl) (by kernel_rfl) (fun _ _ _ h => h) (Or.inl ⟨by rfl, ?_⟩) hHeld ?_
  rotate_left
  · (intro w1 hSw; (try dsimp only at hSw); (try obtain ⟨sA, sB⟩ := hSw); go_simp; all_goals with_reducible rfl)
  (try go_frame)
  refine wpAnyH_ready (rs := [5]) (by kernel_rfl) (by simp) ?_
  refine AllReadyH.cons rfl (fun K hK => ?_) AllReadyH.nil
  go_simp
  go_wp2_with fail
  refine hK.out _ _ ?_ (fun hHeld2 => ?_)
  · exact c0
  clear hK K hHeld
  have hHeld := hHeld2
  clear hHeld2
  (try go_frame)
  refine wpAnyH_ready (rs := [6]) (by kernel_rfl) (by simp) ?_
  refine AllReadyH.cons rfl (fun K hK => ?_) AllReadyH.nil
  go_simp
  go_wp2_with (go_at_call 64; (with_reducible refine hmr.mono ?_); rintro en w3 ⟨b0, rfl, hM⟩; have g0 : w3.cell? ⟨w.heap.size, 0, none⟩ = some (.pointer (some ⟨X, 0, none⟩)) := blk_cell ((hM.fr.block _ (heap_ltU r0) (by rintro (e | ⟨p, e⟩); exact hnb.1 e; exact hnb.2 p e)).trans r0) 0 _ rfl; obtain ⟨csX, TX, vX, hX3, hvX⟩ := hM.at_; have g1 := blk_cell hX3 1 _ hvX; have g2 : w3.frozen? ⟨X, 1, none⟩ = false := by simp [World.frozen?, hX3])
  refine hK.out _ _ ?_ (fun hHeld2 => ?_)
  · exact g0
  clear hK K hHeld
  have hHeld := hHeld2
  clear hHeld2
  (try go_frame)
  refine wpAnyH_take (i := 7) (v := ?_) rfl (by kernel_rfl) (by kernel_rfl) (by kernel_rfl) (fun _ _ _ h => h) (Or.inl ⟨by rfl, ?_⟩) hHeld ?_
  rotate_left
  · (intro w1 hSw; (try dsimp only at hSw); (try obtain ⟨sA, sB⟩ := hSw); go_simp; all_goals with_reducible rfl)
  (try go_frame)
  refine wpAnyH_take (i := 8) (v := ?_) rfl (by kernel_rfl) (by kernel_rfl) (by kernel_rfl) (fun _ _ _ h => h) (Or.inl ⟨by rfl, ?_⟩) hHeld ?_
  rotate_left
  · (intro w1 hSw; (try dsimp only at hSw); (try obtain ⟨sA, sB⟩ := hSw); go_simp; all_goals with_reducible rfl)
  (try go_frame)
  refine wpAnyH_ready (rs := [9]) (by kernel_rfl) (by simp) ?_
  refine AllReadyH.cons rfl (fun K hK => ?_) AllReadyH.nil
  go_simp
  go_wp2_with fail
  refine hK.out _ _ ?_ (fun hHeld2 => ?_)
  · exact (World.cell?_setCell_far _ _ _ _ (by show X ≠ w.heap.size; exact fun e => hnb.1 e.symm)).trans g0
  clear hK K hHeld
  have hHeld := hHeld2
  clear hHeld2
  (try go_frame)
  refine wpAnyH_done (by kernel_rfl) ?_ _
  refine NoPanic.normal ?_
  -- the trie behind it
  obtain ⟨A1, id1, N1, hT4, hA4, hN4, hnew4, hid4, -⟩ := hM.ex
  rw [bmU_nil] at hT4
  have hfr4 : FrU (FtU X A) w (w3.setCell ⟨X, 1, none⟩ (.pointer (some ⟨b0, 0, none⟩))) := ((FrU.of_below hb02).drew.trans hM.fr (fun j h => .inl h)).set (.inl (.inl rfl)) _ _
  have s0 : (w3.setCell ⟨X, 1, none⟩ (.pointer (some ⟨b0, 0, none⟩))).heap[w.heap.size]? = some (.cells #[.pointer (some ⟨X, 0, none⟩)] 54 (0, 0)) := (setHU hnb.1).trans ((hM.fr.block _ (heap_ltU r0) (by rintro (e | ⟨p, e⟩); exact hnb.1 e; exact hnb.2 p e)).trans r0)
  have hnb1 := hT2.notA r1 (by simp)
  have s1 : (w3.setCell ⟨X, 1, none⟩ (.pointer (some ⟨b0, 0, none⟩))).heap[w.heap.size + 1]? = some (.cells #[.int .u64 (hi v), .int .u64 (lo v)] 29 (0, 0)) := (setHU hnb1.1).trans ((hM.fr.block _ (heap_ltU r1) (by rintro (e | ⟨p, e⟩); exact hnb1.1 e; exact hnb1.2 p e)).trans r1)
  obtain ⟨w4, hw4⟩ : ∃ w4, w4 = w3.setCell ⟨X, 1, none⟩ (.pointer (some ⟨b0, 0, none⟩)) := ⟨_, rfl⟩
  rw [← hw4] at hT4 hfr4 s0 s1 ⊢
  clear hw4 hmr c0 c1 g0 g1 g2 hX3 hHeld hM
  have hs4 : w.heap.size + 2 ≤ w4.heap.size := by have := heap_ltU s1; omega
  have c0 := blk_cell s0 0 _ rfl
  have hl4 : lvU A1 (bmU c []) [] = some b0 := by unfold lvU; rw [if_pos (by unfold bmU; rw [if_pos (List.prefix_refl _)]; omega)]; exact hA4
  have hX4 := hT4.box
  rw [hl4] at hX4
  have c1 : w4.cell? ⟨X, 1, none⟩ = some (.pointer (some ⟨b0, 0, none⟩)) := blk_cell hX4 1 _ rfl
  gi_wp2
  -- region 5: firstBits
  obtain ⟨W5, hW5⟩ : ∃ W5, W5 = w4.alloc (.cells #[.pointer (some ⟨b0, 0, none⟩)] 126) := ⟨_, rfl⟩
  have hB5 : Below w4.heap.size w4 W5 := by rw [hW5]; exact (Below.refl _ _).alloc (Nat.le_refl _) _
  have hz5 : W5.heap.size = w4.heap.size + 1 := by rw [hW5]; simp
  have t9 : W5.heap[w4.heap.size]? = some (.cells #[.pointer (some ⟨b0, 0, none⟩)] 126 (0, 0)) := by rw [hW5]; exact heap_alloc_new _ _
  rw [← hW5]
  have HKS : Hid (∀ w', Below W5.heap.size W5 w' → Below W5.heap.size W5 w' ∧ w'.cell? ⟨w.heap.size, 0, none⟩ = some (.pointer (some ⟨X, 0, none⟩)) ∧ w'.cell? ⟨w.heap.size + 1, 0, none⟩ = some (.int .u64 (hi v)) ∧ w'.cell? ⟨w.heap.size + 1, 1, none⟩ = some (.int .u64 (lo v)) ∧ w'.cell? ⟨X, 0, none⟩ = some (.int .i64 bits)) := Lib.hid fun w' hb => by
    have hb1 : Below w4.heap.size w4 w' := hB5.trans (hb.mono hB5.size)
    have q0 := (hb1.block _ (heap_ltU s0)).trans s0
    have q1 := (hb1.block _ (heap_ltU s1)).trans s1
    have q3 := (hb1.block _ (heap_ltU hX4)).trans hX4
    exact ⟨hb, blk_cell q0 0 _ rfl, blk_cell q1 0 _ rfl, blk_cell q1 1 _ rfl, blk_cell q3 0 _ rfl⟩
  have HB5 := Lib.hid hB5
  have HT9 := Lib.hid t9
  clear hW5 hB5 t9 c0 c1
  refine wpIn_wide.2 ?_
  go_region_held3 (fun w' => Below W5.heap.size W5 w' ∧ w'.cell? ⟨w.heap.size, 0, none⟩ = some (.pointer (some ⟨X, 0, none⟩)) ∧ w'.cell? ⟨w.heap.size + 1, 0, none⟩ = some (.int .u64 (hi v)) ∧ w'.cell? ⟨w.heap.size + 1, 1, none⟩ = some (.int .u64 (lo v)) ∧ w'.cell? ⟨X, 0, none⟩ = some (.int .i64 bits))
    (first
      | exact HKS.out _ (Below.drew (Below.refl _ _))
      | exact HKS.out _ (below_call (And.left (by assumption)) (by assumption))
      | assumption)
    (first
      | (go_at_call 65; (with_reducible refine (ut_firstB v bits m _).mono ?_); rintro en w6 ⟨rfl, hv6, hfb⟩))
  rename_i hHeld
  have hB46 : Below w4.heap.size w4 w6 := HB5.out.trans (hHeld.1.mono HB5.out.size)
  have hz6 : w6.heap.size = w4.heap.size + 4 := by have := hfb.size; simp only [World.size_drew] at this; omega
  have d9 := (hHeld.1.block _ (heap_ltU HT9.out)).trans HT9.out
  have f0 := hfb.bv
  have f1 := hfb.bb
  have f2 := hfb.bn
  simp only [World.size_drew, hz5] at f0 f1 f2
  have u0 := (hB46.block _ (heap_ltU s0)).trans s0
  have hT6 := hT4.below hB46
  have hfr6 : FrU (FtU X A) w w6 := hfr4.trans (FrU.of_below hB46 (F := FtU X A)) (fun j h => .inl h)
  clear HB5 HT9 HKS hHeld hfb hv6 s0 s1
  unfold fvU
  gi_wp2
  have hq0 : (pthU bits v m).length = m := pthU_len _ _ _
  have hs04 : w.heap.size ≤ w4.heap.size := by omega
  refine wpIn_rangeFunc_ownF rfl (by decide) (gf := 88) (lb := #[.pointer (some ⟨w4.heap.size + 1 + 2, 0, none⟩), .pointer (some ⟨w4.heap.size + 1, 0, none⟩), .pointer (some ⟨w4.heap.size + 1 + 1, 0, none⟩)]) rfl trivial (enters_of Try.func88 (by kernel_rfl) rfl)
    (ut_bits1_stops (9 - 1) (by decide) (w4.heap.size + 1 + 2) (w4.heap.size + 1) (w4.heap.size + 1 + 1) bits v m hv hmb hb8 w6 f2 f0 f1) KpZ.trans
    (fun W' k o o' hk h h1 h2 => ⟨⟨World.putObj_heap_other (by omega), World.putObj_heap_other (by omega)⟩, by simp⟩) (Below.refl _ _) (fun _ => rfl)
    (fun pre W' => PutI w X bits A c th id N w.heap.size w4.heap.size pre W' ∧ (w6.heap.size ≤ W'.heap.size ∧ W'.heap[w4.heap.size + 1]? = w6.heap[w4.heap.size + 1]? ∧ W'.heap[w4.heap.size + 1 + 1]? = w6.heap[w4.heap.size + 1 + 1]?))
    (fun _ _ _ => False)
    (fun pre X1 X2 row h hg hr => ⟨h.1.turn hg (fun r e => ⟨by have := (hr r e).1; omega, (hr r e).2⟩), Nat.le_trans h.2.1 hg.size, (hg.block _ (by have := h.2.1; omega) (fun e => by have := (hr _ e.symm).1; omega)).trans h.2.2.1, (hg.block _ (by have := h.2.1; omega) (fun e => by have := (hr _ e.symm).1; omega)).trans h.2.2.2⟩)
    (fun _ _ _ _ _ hs _ _ => hs)
    ⟨⟨⟨A1, id1, N1, b0, hT6, hA4, d9, by simpa using hN4, fun p b' hb => by rcases hnew4 p b' hb with h | h; exact .inl h; exact .inr (Nat.le_trans hb02.size h), hid4⟩, hfr6, u0⟩, Nat.le_refl _, rfl, rfl⟩
    (fun x => { tmps := #[.pointer (some ⟨X, 0, none⟩), .agg #[.int .u64 (hi v), .int .u64 (lo v)], .int .i64 m, .int .i64 i0, .pointer (some ⟨w.heap.size, 0, none⟩), .pointer (some ⟨w.heap.size + 1, 0, none⟩), undef, undef, .bool false, .pointer (some ⟨w4.heap.size, 0, none⟩), .int .i64 (bU x), .pointer (some ⟨X, 0, none⟩), .agg #[.int .u64 (hi v), .int .u64 (lo v)], .int .i64 m, .bool true, .bool false, .bool false, .pointer (some ⟨X, 0, none⟩), .agg #[.int .u64 (hi v), .int .u64 (lo v)], .int .i64 m, .pointer none, .bool false, .bool false, .pointer (some ⟨X, 0, none⟩), .pointer (some ⟨X, 0, none⟩), .pointer (some ⟨X, 0, none⟩), .pointer (some ⟨X, 0, none⟩), .pointer (some ⟨X, 1, none⟩), .pointer (Option.map (fun b => ⟨b, 0, none⟩) (lvU A c [])), .pointer (some ⟨b0, 0, none⟩), .pointer (some ⟨X, 0, none⟩), .pointer (some ⟨X, 1, none⟩), .pointer (some ⟨X, 0, none⟩), .pointer (some ⟨X, 0, none⟩), .pointer (some ⟨X, 1, none⟩), .pointer (some ⟨b0, 0, none⟩), .agg #[.int .u64 (hi v), .int .u64 (lo v)], .pointer (some ⟨X, 0, none⟩), .pointer (some ⟨X, 0, none⟩), .pointer (some ⟨X, 0, none⟩), .int .i64 bits, .int .i64 m, .func (.func 88) #[] #[.pointer (some ⟨w4.heap.size + 1 + 2, 0, none⟩), .pointer (some ⟨w4.heap.size + 1, 0, none⟩), .pointer (some ⟨w4.heap.size + 1 + 1, 0, none⟩)], .int .i64 (bU x), undef, undef, undef, undef, undef, undef, undef, undef, undef, undef, undef, undef, undef, undef, undef, undef, undef, undef, undef, undef, undef, undef, undef, undef, undef, undef], defers := [] })
    ?assign ?body ?done ?stop
  case assign =>
    intro l2 x W' K hK
    unfold encBU
    gi_wp2
    exact hK
  case body =>
    rintro l2 pre x W' ⟨hI, hz', hk1, hk2⟩ hlen
    obtain ⟨⟨A', id', N', b, h1, h2, h3, h4, h5, h6⟩, hfr, hbt⟩ := hI
    have hfol : Try.prog.follows .mixedOrders = true := by kernel_rfl
    have y9 := blk_cell h3 0 _ rfl
    have yt := blk_cell hbt 0 _ rfl
    have hnode := h1.node _ _ h2
    have n9 := h1.notA h3 (by simp)
    have nt := h1.notA hbt (by simp)
    have hb9 : (⟨b, ixU x, none⟩ : Addr).block ≠ w4.heap.size := fun e => n9.2 pre (by rw [h2]; exact congrArg some e)
    have hbt9 : (⟨b, ixU x, none⟩ : Addr).block ≠ w.heap.size := fun e => nt.2 pre (by rw [h2]; exact congrArg some e)
    have hc0 : bmU c pre (pre ++ [x]) = c (pre ++ [x]) := bmU_at c pre x
    have hmr := ut_moreAt (h1.aside (w' := W'.drew) (fun _ _ => rfl)) pre x h2 (fun h => by rw [hc0] at h; cases ht : th (pre ++ [x]) with | false => rfl | true => (have := hW.thc _ ht; omega)) (fun h y => by rw [hc0] at h; rw [bmU_at2]; have := hW.mono (pre ++ [x]) y; omega) (by rw [hc0]; have := hcb (pre ++ [x]); omega) (by omega)
    unfold ptU at hmr
    have hne9 : ∀ {F : Nat → Prop} {j : Nat} {o : Obj}, W'.heap[j]? = some o → ¬ F j → ∀ {w5 : World}, FrU F W'.drew w5 → w5.heap[j]? = some o := fun hj hn w5 hf => (hf.block _ (heap_ltU hj) hn).trans hj
    have hF9 : ¬ FtU X A' w4.heap.size := by rintro (e | ⟨p, e⟩); exact n9.1 e; exact n9.2 p e
    have hFt : ¬ FtU X A' w.heap.size := by rintro (e | ⟨p, e⟩); exact nt.1 e; exact nt.2 p e
    have hst : ∀ w5 b', MoreU W'.drew w5 X bits A' (bmU c pre) th id' N' b (ixU x) (pre ++ [x]) b' → w5.cell? ⟨w4.heap.size, 0, none⟩ = some (.pointer (some ⟨b, 0, none⟩)) ∧ w5.cell? ⟨w.heap.size, 0, none⟩ = some (.pointer (some ⟨X, 0, none⟩)) := fun w5 b' hM => ⟨blk_cell (hne9 h3 hF9 hM.fr) 0 _ rfl, blk_cell (hne9 hbt hFt hM.fr) 0 _ rfl⟩
    have hf9 : ∀ w5 b', MoreU W'.drew w5 X bits A' (bmU c pre) th id' N' b (ixU x) (pre ++ [x]) b' → w5.frozen? ⟨w4.heap.size, 0, none⟩ = false := fun w5 b' hM => by simp [World.frozen?, hne9 h3 hF9 hM.fr]
    have hfin : ∀ w5 b', MoreU W'.drew w5 X bits A' (bmU c pre) th id' N' b (ixU x) (pre ++ [x]) b' → ∀ W7, W7 = (w5.setCell ⟨b, ixU x, none⟩ (.pointer (some ⟨b', 0, none⟩))).setCell ⟨w4.heap.size, 0, none⟩ (.pointer (some ⟨b', 0, none⟩)) → ∀ a', ownPostK (KpZ (w4.heap.size + 1) (w4.heap.size + 1 + 1)) (fun pre W' => PutI w X bits A c th id N w.heap.size w4.heap.size pre W' ∧ (w6.heap.size ≤ W'.heap.size ∧ W'.heap[w4.heap.size + 1]? = w6.heap[w4.heap.size + 1]? ∧ W'.heap[w4.heap.size + 1 + 1]? = w6.heap[w4.heap.size + 1 + 1]?)) (fun _ _ _ => False) (pre ++ [x]) W' .normal a' W7 := by
      rintro w5 b' hM W7 rfl a'
      have o0 : w5.heap[w4.heap.size + 1]? = W'.heap[w4.heap.size + 1]? := by
        have hh := hk1.trans f0
        have nn := h1.notA hh (by simp)
        exact (hne9 hh (by rintro (e | ⟨p, e⟩); exact nn.1 e; exact nn.2 p e) hM.fr).trans hh.symm
      have o1 : w5.heap[w4.heap.size + 1 + 1]? = W'.heap[w4.heap.size + 1 + 1]? := by
        have hh := hk2.trans f1
        have nn := h1.notA hh (by simp)
        exact (hne9 hh (by rintro (e | ⟨p, e⟩); exact nn.1 e; exact nn.2 p e) hM.fr).trans hh.symm
      have hb0' : b ≠ w4.heap.size + 1 := fun e => by
        have nn := h1.notA (hk1.trans f0) (by simp)
        exact nn.2 pre (by rw [h2, e])
      have hb1' : b ≠ w4.heap.size + 1 + 1 := fun e => by
        have nn := h1.notA (hk2.trans f1) (by simp)
        exact nn.2 pre (by rw [h2, e])
      have hs5 : W'.heap.size ≤ w5.heap.size := hM.fr.size
      have p0 : ((w5.setCell ⟨b, ixU x, none⟩ (.pointer (some ⟨b', 0, none⟩))).setCell ⟨w4.heap.size, 0, none⟩ (.pointer (some ⟨b', 0, none⟩))).heap[w4.heap.size + 1]? = W'.heap[w4.heap.size + 1]? := by rw [setHU (by omega), setHU (fun e => hb0' e.symm)]; exact o0
      have p1 : ((w5.setCell ⟨b, ixU x, none⟩ (.pointer (some ⟨b', 0, none⟩))).setCell ⟨w4.heap.size, 0, none⟩ (.pointer (some ⟨b', 0, none⟩))).heap[w4.heap.size + 1 + 1]? = W'.heap[w4.heap.size + 1 + 1]? := by rw [setHU (by omega), setHU (fun e => hb1' e.symm)]; exact o1
      obtain ⟨A6, id6, N6, hT7, hA6, hN6, hnew6, hid6, -⟩ := hM.ex
      rw [bmU_snoc] at hT7
      have e9 : (w5.setCell ⟨b, ixU x, none⟩ (.pointer (some ⟨b', 0, none⟩))).heap[w4.heap.size]? = some (.cells #[.pointer (some ⟨b, 0, none⟩)] 126 (0, 0)) := (setHU (fun e => hb9 e.symm)).trans (hne9 h3 hF9 hM.fr)
      have et : (w5.setCell ⟨b, ixU x, none⟩ (.pointer (some ⟨b', 0, none⟩))).heap[w.heap.size]? = some (.cells #[.pointer (some ⟨X, 0, none⟩)] 54 (0, 0)) := (setHU (fun e => hbt9 e.symm)).trans (hne9 hbt hFt hM.fr)
      have n7 := hT7.notA e9 (by simp)
      have ko : KeepsOthers W' w5 := (KeepsOthers.drew W').trans (hM.fr.others fun j o hj ho => h1.cells j o hj ho)
      refine ⟨(ko.trans (KeepsOthers.setCell _ _ _)).trans (KeepsOthers.setCell _ _ _), ⟨⟨p0, p1⟩, by simp; exact hs5⟩, ⟨⟨A6, id6, N6, b', hT7.aside fun j hj => setHU (fun e => ?_), hA6, ?_, by simp; omega, fun p b'' hb'' => ?_, fun p hp => (hid6 p hp).trans (h6 p hp)⟩, ?_, ?_⟩, by simp; omega, p0.trans hk1, p1.trans hk2⟩
      · rcases hj with e2 | ⟨p, e2⟩
        · exact n7.1 (e.symm.trans e2)
        · exact n7.2 p (by rw [e2]; exact congrArg some e)
      · rw [blk_set e9]; rfl
      · rcases hnew6 p b'' hb'' with h | h
        · exact h5 p b'' h
        · exact .inr (by have : W'.drew.heap.size = W'.heap.size := rfl; omega)
      · refine ((hfr.drew.trans hM.fr (fun j hj => ?_)).set ?_ _ _).set (.inr hs04) _ _
        · rcases hj with e | ⟨p, e⟩
          · exact .inl (.inl e)
          · exact (h5 p j e).imp (fun h => .inr ⟨p, h⟩) (fun h => h)
        · exact (h5 pre b h2).imp (fun h => .inr ⟨pre, h⟩) (fun h => h)
      · rw [setHU (by omega)]; exact et
    cases x
    · have yc : W'.cell? ⟨b, 0, none⟩ = some (.pointer ((lvU A' (bmU c pre) (pre ++ [false])).map fun b => ⟨b, 0, none⟩)) := blk_cell hnode 0 _ rfl
      unfold bU
      simp only [Bool.false_eq_true, if_false]
      gi_wp2
      refine wp_round_held (S := fun w' => w'.cell? ⟨w4.heap.size, 0, none⟩ = some (.pointer (some ⟨b, 0, none⟩)) ∧ w'.cell? ⟨w.heap.size, 0, none⟩ = some (.pointer (some ⟨X, 0, none⟩))) hfol (by kernel_rfl) (fun ⟨_, _, h⟩ => h) ⟨y9, yt⟩ (fun hHeld => ?_)
      refine wpAnyH_take (i := 0) (v := ?_) rfl (by kernel_rfl) (by kernel_rfl) (by kernel_rfl) (fun _ _ _ h => h) (Or.inl ⟨by rfl, ?_⟩) hHeld ?_
      rotate_left
      · (intro w1 hSw; (try dsimp only at hSw); (try obtain ⟨sA, sB⟩ := hSw); go_simp; all_goals with_reducible rfl)
      (try go_frame)
      refine wpAnyH_take (i := 1) (v := ?_) rfl (by kernel_rfl) (by kernel_rfl) (by kernel_rfl) (fun _ _ _ h => h) (Or.inl ⟨by rfl, ?_⟩) hHeld ?_
      rotate_left
      · (intro w1 hSw; (try dsimp only at hSw); (try obtain ⟨sA, sB⟩ := hSw); go_simp; all_goals with_reducible rfl)
      (try go_frame)
      refine wpAnyH_take (i := 2) (v := ?_) rfl (by kernel_rfl) (by kernel_rfl) (by kernel_rfl) (fun _ _ _ h => h) (Or.inl ⟨by rfl, ?_⟩) hHeld ?_
      rotate_left
      · (intro w1 hSw; (try dsimp only at hSw); (try obtain ⟨sA, sB⟩ := hSw); go_simp; all_goals with_reducible rfl)
      (try go_frame)
      refine wpAnyH_take (i := 3) (v := ?_) rfl (by kernel_rfl) (by kernel_rfl) (by kernel_rfl) (fun _ _ _ h => h) (Or.inl ⟨by rfl, ?_⟩) hHeld ?_
      rotate_left
      · (intro w1 hSw; (try dsimp only at hSw); (try obtain ⟨sA, sB⟩ := hSw); go_simp; all_goals with_reducible rfl)
      (try go_frame)
      refine wpAnyH_take (i := 4) (v := ?_) rfl (by kernel_rfl) (by kernel_rfl) (by kernel_rfl) (fun _ _ _ h => h) (Or.inl ⟨by rfl, ?_⟩) hHeld ?_
      rotate_left
      · (intro w1 hSw; (try dsimp only at hSw); (try obtain ⟨sA, sB⟩ := hSw); go_simp; all_goals with_reducible rfl)
      (try go_frame)
      refine wpAnyH_take (i := 5) (v := ?_) rfl (by kernel_rfl) (by kernel_rfl) (by kernel_rfl) (fun _ _ _ h => h) (Or.inl ⟨by rfl, ?_⟩) hHeld ?_
      rotate_left
      · (intro w1 hSw; (try dsimp only at hSw); (try obtain ⟨sA, sB⟩ := hSw); go_simp; all_goals with_reducible rfl)
      (try go_frame)
      refine wpAnyH_take (i := 6) (v := ?_) rfl (by kernel_rfl) (by kernel_rfl) (by kernel_rfl) (fun _ _ _ h => h) (Or.inl ⟨by rfl, ?_⟩) hHeld ?_
      rotate_left
      · (intro w1 hSw; (try dsimp only at hSw); (try obtain ⟨sA, sB⟩ := hSw); go_simp; all_goals with_reducible rfl)
      (try go_frame)
      refine wpAnyH_take (i := 7) (v := ?_) rfl (by kernel_rfl) (by kernel_rfl) (by kernel_rfl) (fun _ _ _ h => h) (Or.inl ⟨by rfl, ?_⟩) hHeld ?_
      rotate_left
      · (intro w1 hSw; (try dsimp only at hSw); (try obtain ⟨sA, sB⟩ := hSw); go_simp; all_goals with_reducible rfl)
      (try go_frame)
      refine wpAnyH_take (i := 10) (v := ?_) rfl (by kernel_rfl) (by kernel_rfl) (by kernel_rfl) (fun _ _ _ h => h) (Or.inl ⟨by rfl, ?_⟩) hHeld ?_
      rotate_left
      · (intro w1 hSw; (try dsimp only at hSw); (try obtain ⟨sA, sB⟩ := hSw); go_simp; all_goals with_reducible rfl)
      (try go_frame)
      refine wpAnyH_take (i := 11) (v := ?_) rfl (by kernel_rfl) (by kernel_rfl) (by kernel_rfl) (fun _ _ _ h => h) (Or.inl ⟨by rfl, ?_⟩) hHeld ?_
      rotate_left
      · (intro w1 hSw; (try dsimp only at hSw); (try obtain ⟨sA, sB⟩ := hSw); go_simp; all_goals with_reducible rfl)
      (try go_frame)
      refine wpAnyH_ready (rs := [8]) (by kernel_rfl) (by simp) ?_
      refine AllReadyH.cons rfl (fun K hK => ?_) AllReadyH.nil
      go_simp
      go_wp2_with fail
      refine hK.out _ _ ?_ (fun hHeld2 => ?_)
      · exact ⟨y9, yt⟩
      clear hK K hHeld
      have hHeld := hHeld2
      clear hHeld2
      (try go_frame)
      refine wpAnyH_ready (rs := [9]) (by kernel_rfl) (by simp) ?_
      refine AllReadyH.cons rfl (fun K hK => ?_) AllReadyH.nil
      go_simp
      go_wp2_with (go_at_call 64; (with_reducible refine hmr.mono ?_); rintro en w5 ⟨b', rfl, hM⟩; obtain ⟨k9, kt⟩ := hst _ _ hM; obtain ⟨csP, TP, vP, hP5, hvP⟩ := hM.at_; have g1 : w5.cell? ⟨b, 0, none⟩ = some vP := blk_cell hP5 _ _ hvP; have g2 : w5.frozen? ⟨b, 0, none⟩ = false := by simp [World.frozen?, hP5])
      refine hK.out _ _ ?_ (fun hHeld2 => ?_)
      · exact ⟨k9, kt⟩
      clear hK K hHeld
      have hHeld := hHeld2
      clear hHeld2
      (try go_frame)
      refine wpAnyH_take (i := 12) (v := ?_) rfl (by kernel_rfl) (by kernel_rfl) (by kernel_rfl) (fun _ _ _ h => h) (Or.inl ⟨by rfl, ?_⟩) hHeld ?_
      rotate_left
      · (intro w1 hSw; (try dsimp only at hSw); (try obtain ⟨sA, sB⟩ := hSw); go_simp; all_goals with_reducible rfl)
      (try go_frame)
      refine wpAnyH_ready (rs := [13]) (by kernel_rfl) (by simp) ?_
      refine AllReadyH.cons rfl (fun K hK => ?_) AllReadyH.nil
      go_simp
      go_wp2_with fail
      refine hK.out _ _ ?_ (fun hHeld2 => ?_)
      · exact ⟨(World.cell?_setCell_far _ _ _ _ hb9).trans k9, (World.cell?_setCell_far _ _ _ _ hbt9).trans kt⟩
      clear hK K hHeld
      have hHeld := hHeld2
      clear hHeld2
      (try go_frame)
      refine wpAnyH_done (by kernel_rfl) ?_ _
      have m9 : (w5.setCell ⟨b, 0, none⟩ (.pointer (some ⟨b', 0, none⟩))).cell? ⟨w4.heap.size, 0, none⟩ = some (.pointer (some ⟨b, 0, none⟩)) := (World.cell?_setCell_far _ _ _ _ hb9).trans k9
      have mc : (w5.setCell ⟨b, 0, none⟩ (.pointer (some ⟨b', 0, none⟩))).cell? ⟨b, 0, none⟩ = some (.pointer (some ⟨b', 0, none⟩)) := World.cell?_setCell_same _ _ _ g1
      have mf : (w5.setCell ⟨b, 0, none⟩ (.pointer (some ⟨b', 0, none⟩))).frozen? ⟨w4.heap.size, 0, none⟩ = false := by rw [World.frozen?_setCell]; exact hf9 _ _ hM
      gi_wp2
      exact hfin _ _ hM _ rfl ⟨#[], []⟩
    · have yc : W'.cell? ⟨b, 1, none⟩ = some (.pointer ((lvU A' (bmU c pre) (pre ++ [true])).map fun b => ⟨b, 0, none⟩)) := blk_cell hnode 1 _ rfl
      unfold bU
      simp only [if_true]
      gi_wp2
      refine wp_round_held (S := fun w' => w'.cell? ⟨w4.heap.size, 0, none⟩ = some (.pointer (some ⟨b, 0, none⟩)) ∧ w'.cell? ⟨w.heap.size, 0, none⟩ = some (.pointer (some ⟨X, 0, none⟩))) hfol (by kernel_rfl) (fun ⟨_, _, h⟩ => h) ⟨y9, yt⟩ (fun hHeld => ?_)
      refine wpAnyH_take (i := 0) (v := ?_) rfl (by kernel_rfl) (by kernel_rfl) (by kernel_rfl) (fun _ _ _ h => h) (Or.inl ⟨by rfl, ?_⟩) hHeld ?_
      rotate_left
      · (intro w1 hSw; (try dsimp only at hSw); (try obtain ⟨sA, sB⟩ := hSw); go_simp; all_goals with_reducible rfl)
      (try go_frame)
      refine wpAnyH_take (i := 1) (v := ?_) rfl (by kernel_rfl) (by kernel_rfl) (by kernel_rfl) (fun _ _ _ h => h) (Or.inl ⟨by rfl, ?_⟩) hHeld ?_
      rotate_left
      · (intro w1 hSw; (try dsimp only at hSw); (try obtain ⟨sA, sB⟩ := hSw); go_simp; all_goals with_reducible rfl)
      (try go_frame)
      refine wpAnyH_take (i := 2) (v := ?_) rfl (by kernel_rfl) (by kernel_rfl) (by kernel_rfl) (fun _ _ _ h => h) (Or.inl ⟨by rfl, ?_⟩) hHeld ?_
      rotate_left
      · (intro w1 hSw; (try dsimp only at hSw); (try obtain ⟨sA, sB⟩ := hSw); go_simp; all_goals with_reducible rfl)
      (try go_frame)
      refine wpAnyH_take (i := 3) (v := ?_) rfl (by kernel_rfl) (by kernel_rfl) (by kernel_rfl) (fun _ _ _ h => h) (Or.inl ⟨by rfl, ?_⟩) hHeld ?_
      rotate_left
      · (intro w1 hSw; (try dsimp only at hSw); (try obtain ⟨sA, sB⟩ := hSw); go_simp; all_goals with_reducible rfl)
      (try go_frame)
      refine wpAnyH_take (i := 4) (v := ?_) rfl (by kernel_rfl) (by kernel_rfl) (by kernel_rfl) (fun _ _ _ h => h) (Or.inl ⟨by rfl, ?_⟩) hHeld ?_
      rotate_left
      · (intro w1 hSw; (try dsimp only at hSw); (try obtain ⟨sA, sB⟩ := hSw); go_simp; all_goals with_reducible rfl)
      (try go_frame)
      refine wpAnyH_take (i := 5) (v := ?_) rfl (by kernel_rfl) (by kernel_rfl) (by kernel_rfl) (fun _ _ _ h => h) (Or.inl ⟨by rfl, ?_⟩) hHeld ?_
      rotate_left
      · (intro w1 hSw; (try dsimp only at hSw); (try obtain ⟨sA, sB⟩ := hSw); go_simp; all_goals with_reducible rfl)
      (try go_frame)
      refine wpAnyH_take (i := 6) (v := ?_) rfl (by kernel_rfl) (by kernel_rfl) (by kernel_rfl) (fun _ _ _ h => h) (Or.inl ⟨by rfl, ?_⟩) hHeld ?_
      rotate_left
      · (intro w1 hSw; (try dsimp only at hSw); (try obtain ⟨sA, sB⟩ := hSw); go_simp; all_goals with_reducible rfl)
      (try go_frame)
      refine wpAnyH_take (i := 7) (v := ?_) rfl (by kernel_rfl) (by kernel_rfl) (by kernel_rfl) (fun _ _ _ h => h) (Or.inl ⟨by rfl, ?_⟩) hHeld ?_
      rotate_left
      · (intro w1 hSw; (try dsimp only at hSw); (try obtain ⟨sA, sB⟩ := hSw); go_simp; all_goals with_reducible rfl)
      (try go_frame)
      refine wpAnyH_take (i := 10) (v := ?_) rfl (by kernel_rfl) (by kernel_rfl) (by kernel_rfl) (fun _ _ _ h => h) (Or.inl ⟨by rfl, ?_⟩) hHeld ?_
      rotate_left
      · (intro w1 hSw; (try dsimp only at hSw); (try obtain ⟨sA, sB⟩ := hSw); go_simp; all_goals with_reducible rfl)
      (try go_frame)
      refine wpAnyH_take (i := 11) (v := ?_) rfl (by kernel_rfl) (by kernel_rfl) (by kernel_rfl) (fun _ _ _ h => h) (Or.inl ⟨by rfl, ?_⟩) hHeld ?_
      rotate_left
      · (intro w1 hSw; (try dsimp only at hSw); (try obtain ⟨sA, sB⟩ := hSw); go_simp; all_goals with_reducible rfl)
      (try go_frame)
      refine wpAnyH_ready (rs := [8]) (by kernel_rfl) (by simp) ?_
      refine AllReadyH.cons rfl (fun K hK => ?_) AllReadyH.nil
      go_simp
      go_wp2_with fail
      refine hK.out _ _ ?_ (fun hHeld2 => ?_)
      · exact ⟨y9, yt⟩
      clear hK K hHeld
      have hHeld := hHeld2
      clear hHeld2
      (try go_frame)
      refine wpAnyH_ready (rs := [9]) (by kernel_rfl) (by simp) ?_
      refine AllReadyH.cons rfl (fun K hK => ?_) AllReadyH.nil
      go_simp
      go_wp2_with (go_at_call 64; (with_reducible refine hmr.mono ?_); rintro en w5 ⟨b', rfl, hM⟩; obtain ⟨k9, kt⟩ := hst _ _ hM; obtain ⟨csP, TP, vP, hP5, hvP⟩ := hM.at_; have g1 : w5.cell? ⟨b, 1, none⟩ = some vP := blk_cell hP5 _ _ hvP; have g2 : w5.frozen? ⟨b, 1, none⟩ = false := by simp [World.frozen?, hP5])
      refine hK.out _ _ ?_ (fun hHeld2 => ?_)
      · exact ⟨k9, kt⟩
      clear hK K hHeld
      have hHeld := hHeld2
      clear hHeld2
      (try go_frame)
      refine wpAnyH_take (i := 12) (v := ?_) rfl (by kernel_rfl) (by kernel_rfl) (by kernel_rfl) (fun _ _ _ h => h) (Or.inl ⟨by rfl, ?_⟩) hHeld ?_
      rotate_left
      · (intro w1 hSw; (try dsimp only at hSw); (try obtain ⟨sA, sB⟩ := hSw); go_simp; all_goals with_reducible rfl)
      (try go_frame)
      refine wpAnyH_ready (rs := [13]) (by kernel_rfl) (by simp) ?_
      refine AllReadyH.cons rfl (fun K hK => ?_) AllReadyH.nil
      go_simp
      go_wp2_with fail
      refine hK.out _ _ ?_ (fun hHeld2 => ?_)
      · exact ⟨(World.cell?_setCell_far _ _ _ _ hb9).trans k9, (World.cell?_setCell_far _ _ _ _ hbt9).trans kt⟩
      clear hK K hHeld
      have hHeld := hHeld2
      clear hHeld2
      (try go_frame)
      refine wpAnyH_done (by kernel_rfl) ?_ _
      have m9 : (w5.setCell ⟨b, 1, none⟩ (.pointer (some ⟨b', 0, none⟩))).cell? ⟨w4.heap.size, 0, none⟩ = some (.pointer (some ⟨b, 0, none⟩)) := (World.cell?_setCell_far _ _ _ _ hb9).trans k9
      have mc : (w5.setCell ⟨b, 1, none⟩ (.pointer (some ⟨b', 0, none⟩))).cell? ⟨b, 1, none⟩ = some (.pointer (some ⟨b', 0, none⟩)) := World.cell?_setCell_same _ _ _ g1
      have mf : (w5.setCell ⟨b, 1, none⟩ (.pointer (some ⟨b', 0, none⟩))).frozen? ⟨w4.heap.size, 0, none⟩ = false := by rw [World.frozen?_setCell]; exact hf9 _ _ hM
      gi_wp2
      exact hfin _ _ hM _ rfl ⟨#[], []⟩
  case done =>
    rintro D2 ys W' hD rfl ⟨hI, hz', hk1, hk2⟩ hK
    obtain ⟨⟨A', id', N', b, h1, h2, h3, h4, h5, h6⟩, hfr, hbt⟩ := hI
    have y9 := blk_cell h3 0 _ rfl
    have hnode := h1.node _ _ h2
    have n9 := h1.notA h3 (by simp)
    have hb9 : b ≠ w4.heap.size := fun e => n9.2 _ (by rw [h2]; exact congrArg some e)
    have y3 : W'.cell? ⟨b, 3, none⟩ = some (.bool (th (pthU bits v m))) := blk_cell hnode 3 _ rfl
    have f3 : W'.frozen? ⟨b, 3, none⟩ = false := by simp [World.frozen?, hnode]
    have y4 : (W'.setCell ⟨b, 3, none⟩ (.bool true)).cell? ⟨b, 4, none⟩ = some (.int .i64 (id' (pthU bits v m))) := blk_cell (blk_set hnode 3 _) 4 _ rfl
    have f4 : W'.frozen? ⟨b, 4, none⟩ = false := by simp [World.frozen?, hnode]
    gi_wp2
    refine wpIn_wide.2 ?_
    refine wp_region_noPanic ?_
    refine wp_region_held_drew (S := fun w' => w'.cell? ⟨w4.heap.size, 0, none⟩ = some (.pointer (some ⟨b, 0, none⟩))) (by kernel_rfl) y9 (fun hHeld => ?_)
    refine wpAnyH_take (i := 0) (v := ?_) rfl (by kernel_rfl) (by kernel_rfl) (by kernel_rfl) (fun _ _ _ h => h) (Or.inl ⟨by rfl, ?_⟩) hHeld ?_
    rotate_left
    · (intro w1 hSw; (try dsimp only at hSw); (try obtain ⟨sA, sB⟩ := hSw); go_simp; all_goals with_reducible rfl)
    (try go_frame)
    refine wpAnyH_take (i := 1) (v := ?_) rfl (by kernel_rfl) (by kernel_rfl) (by kernel_rfl) (fun _ _ _ h => h) (Or.inl ⟨by rfl, ?_⟩) hHeld ?_
    rotate_left
    · (intro w1 hSw; (try dsimp only at hSw); (try obtain ⟨sA, sB⟩ := hSw); go_simp; all_goals with_reducible rfl)
    (try go_frame)
    refine wpAnyH_take (i := 2) (v := ?_) rfl (by kernel_rfl) (by kernel_rfl) (by kernel_rfl) (fun _ _ _ h => h) (Or.inl ⟨by rfl, ?_⟩) hHeld ?_
    rotate_left
    · (intro w1 hSw; (try dsimp only at hSw); (try obtain ⟨sA, sB⟩ := hSw); go_simp; all_goals with_reducible rfl)
    (try go_frame)
    refine wpAnyH_take (i := 3) (v := ?_) rfl (by kernel_rfl) (by kernel_rfl) (by kernel_rfl) (fun _ _ _ h => h) (Or.inl ⟨by rfl, ?_⟩) hHeld ?_
    rotate_left
    · (intro w1 hSw; (try dsimp only at hSw); (try obtain ⟨sA, sB⟩ := hSw); go_simp; all_goals with_reducible rfl)
    (try go_frame)
    refine wpAnyH_take (i := 4) (v := ?_) rfl (by kernel_rfl) (by kernel_rfl) (by kernel_rfl) (fun _ _ _ h => h) (Or.inl ⟨by rfl, ?_⟩) hHeld ?_
    rotate_left
    · (intro w1 hSw; (try dsimp only at hSw); (try obtain ⟨sA, sB⟩ := hSw); go_simp; all_goals with_reducible rfl)
    (try go_frame)
    refine wpAnyH_ready (rs := [5]) (by kernel_rfl) (by simp) ?_
    refine AllReadyH.cons rfl (fun K hK => ?_) AllReadyH.nil
    go_simp
    go_wp2_with fail
    refine hK.out _ _ ?_ (fun hHeld2 => ?_)
    · exact (World.cell?_setCell_far _ _ _ _ (by exact hb9)).trans y9
    clear hK K hHeld
    have hHeld := hHeld2
    clear hHeld2
    (try go_frame)
    refine wpAnyH_take (i := 6) (v := ?_) rfl (by kernel_rfl) (by kernel_rfl) (by kernel_rfl) (fun _ _ _ h => h) (Or.inl ⟨by rfl, ?_⟩) hHeld ?_
    rotate_left
    · (intro w1 hSw; (try dsimp only at hSw); (try obtain ⟨sA, sB⟩ := hSw); go_simp; all_goals with_reducible rfl)
    (try go_frame)
    refine wpAnyH_take (i := 7) (v := ?_) rfl (by kernel_rfl) (by kernel_rfl) (by kernel_rfl) (fun _ _ _ h => h) (Or.inl ⟨by rfl, ?_⟩) hHeld ?_
    rotate_left
    · (intro w1 hSw; (try dsimp only at hSw); (try obtain ⟨sA, sB⟩ := hSw); go_simp; all_goals with_reducible rfl)
    (try go_frame)
    refine wpAnyH_ready (rs := [8]) (by kernel_rfl) (by simp) ?_
    refine AllReadyH.cons rfl (fun K hK => ?_) AllReadyH.nil
    go_simp
    go_wp2_with fail
    refine hK.out _ _ ?_ (fun hHeld2 => ?_)
    · exact (World.cell?_setCell_far _ _ _ _ (by exact hb9)).trans ((World.cell?_setCell_far _ _ _ _ (by exact hb9)).trans y9)
    clear hK K hHeld
    have hHeld := hHeld2
    clear hHeld2
    (try go_frame)
    refine wpAnyH_done (by kernel_rfl) ?_ _
    refine NoPanic.normal ?_
    gi_wp2
    have hbD : b ≠ D2 := fun e => by rw [e, hK] at hnode; injection hnode with hnode; cases hnode
    have hK3 : ((W'.setCell ⟨b, 3, none⟩ (.bool true)).setCell ⟨b, 4, none⟩ (.int .i64 i0)).heap[D2]? = some (.deferred (some [])) := by rw [setHU (fun e => hbD e.symm), setHU (fun e => hbD e.symm)]; exact hK
    refine ⟨by simp, .inl ⟨_, _, rfl, run_takeDeferred hK3, ?_⟩⟩
    have hTf := (h1.mark _ h2 true).name _ h2 i0
    refine ⟨_, results_tmp rfl _ _ _, rfl, ?_, A', updU id' (pthU bits v m) i0, N', hTf.aside (fun j hj => World.putObj_heap_other (fun e => ?_)), by omega, h5, updU_same _ _ _, fun p hp ht => (updU_other _ _ hp).trans (h6 p ht)⟩
    · have hf2 := (hfr.set (k := b) (by exact (h5 _ b h2).imp (fun h => .inr ⟨_, h⟩) (fun h => h)) 3 (.bool true)).set (k := b) (by exact (h5 _ b h2).imp (fun h => .inr ⟨_, h⟩) (fun h => h)) 4 (.int .i64 i0)
      exact hf2.drew.putU D2 _ (by omega)
    · have := hTf.cells j _ hj (by rw [e]; exact hK3)
      cases this
  case stop =>
    rintro D2 cd pre W' _ _ h _
    exact h.elim
end Go.Proofs.Ytmlocfojmncghaa
