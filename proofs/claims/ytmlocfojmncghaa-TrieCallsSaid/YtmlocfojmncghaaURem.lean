/- Layer 12: the program's Remove. -/
import Derived.Test.YtmlocfojmncghaaUPut
namespace Go.Proofs.Ytmlocfojmncghaa
open Go.RowKit Go.Shelf
attribute [local go_sem] Oper.semAt_some
/-- the counts with one prefix less -/
def dmU (c : Pth → Nat) (q : Pth) : Pth → Nat := fun r => c r - if r <+: q then 1 else 0
theorem dmU_nil (c : Pth → Nat) : updU c [] (c [] - 1) = dmU c [] := by
  funext r
  unfold dmU
  by_cases e : r = []
  · subst e; rw [updU_same, if_pos (List.prefix_refl _)]
  · rw [updU_other _ _ e, if_neg (fun h => e (List.prefix_nil.1 h))]; rfl
theorem dmU_at (c : Pth → Nat) (p : Pth) (x : Bool) : dmU c p (p ++ [x]) = c (p ++ [x]) := by
  unfold dmU
  rw [if_neg (not_preU p x)]; rfl
theorem dmU_snoc (c : Pth → Nat) (p : Pth) (x : Bool) : updU (dmU c p) (p ++ [x]) (dmU c p (p ++ [x]) - 1) = dmU c (p ++ [x]) := by
  funext r
  by_cases e : r = p ++ [x]
  · subst e
    rw [updU_same, dmU_at]
    unfold dmU
    rw [if_pos (List.prefix_refl _)]
  · rw [updU_other _ _ e]
    unfold dmU
    by_cases h : r <+: p
    · rw [if_pos h, if_pos (h.trans (List.prefix_append _ _))]
    · rw [if_neg h, if_neg (fun h2 => by
        rcases List.prefix_concat_iff.1 h2 with h3 | h3
        · exact e h3
        · exact h h3)]
/-- fewer counts, fewer nodes -/
theorem nodup_leU : ∀ (l m : List Pth), l.Nodup → (∀ p, p ∈ l → p ∈ m) → l.length ≤ m.length
  | [], _, _, _ => Nat.zero_le _
  | x :: l, m, hl, h => by
    have hx := h x (List.mem_cons_self ..)
    have h1 := nodup_leU l (m.erase x) (List.nodup_cons.1 hl).2 (fun p hp => (List.mem_erase_of_ne (fun e => (List.nodup_cons.1 hl).1 (by rw [← e]; exact hp))).2 (h p (List.mem_cons_of_mem _ hp)))
    rw [List.length_erase_of_mem hx] at h1
    have := List.length_pos_of_mem hx
    simp only [List.length_cons]
    omega
theorem num_leU {c c' : Pth → Nat} {N N' : Nat} (h' : ∃ Ns : List Pth, Ns.Nodup ∧ (∀ p, p ∈ Ns ↔ 0 < c' p) ∧ N' = Ns.length) (h : ∃ Ns : List Pth, Ns.Nodup ∧ (∀ p, p ∈ Ns ↔ 0 < c p) ∧ N = Ns.length) (hc : ∀ r, 0 < c' r → 0 < c r) : N' ≤ N := by
  obtain ⟨l, h1, h2, h3⟩ := h'
  obtain ⟨m, k1, k2, k3⟩ := h
  rw [h3, k3]
  exact nodup_leU l m h1 fun p hp => (k2 p).2 (hc p ((h2 p).1 hp))
/-- halfway through Remove -/
structure RemI (w0 : World) (X bits : Nat) (A : Pth → Option Nat) (c : Pth → Nat) (th : Pth → Bool) (id : Pth → Int) (N Bt Ba : Nat) (pre : Pth) (W : World) : Prop where
  ex : ∃ N' b, TrieM W X bits A (dmU c pre) th id N' ∧ A pre = some b ∧ W.heap[Ba]? = some (.cells #[.pointer (some ⟨b, 0, none⟩)] 126 (0, 0)) ∧ N' ≤ N
  fr : FrU (FtU X A) w0 W
  bt : W.heap[Bt]? = some (.cells #[.pointer (some ⟨X, 0, none⟩)] 54 (0, 0))
set_option maxRecDepth 100000 in
set_option maxHeartbeats 4000000 in
theorem ut_remNo {w : World} {X bits N : Nat} {A : Pth → Option Nat} {c : Pth → Nat} {th : Pth → Bool} {id : Pth → Int} (hT : TrieM w X bits A c th id N) (hW : CWf c th) (hb8 : bits ≤ 128) (v : Nat) (hv : v < 2 ^ 128) (n : Int) (hp : fndU A th bits v n = none) :
    Calls Try.prog 23 #[.pointer (some ⟨X, 0, none⟩), .agg #[.int .u64 (hi v), .int .u64 (lo v)], .int .i64 n] w (RetX (.bool false) w) := by
  obtain ⟨W0, hW0⟩ : ∃ W0, W0 = ((w.alloc (.cells #[.pointer (some ⟨X, 0, none⟩)] 54)).alloc (.cells #[.int .u64 (hi v), .int .u64 (lo v)] 29)) := ⟨_, rfl⟩
  have hB0 : Below w.heap.size w W0 := by rw [hW0]; exact ((Below.refl _ w).alloc (Nat.le_refl _) _).alloc (by simp) _
  have hcall := ut_find (hT.below hB0) hW hb8 v hv n
  rw [hp] at hcall
  unfold ptU at hcall
  simp only [Option.map_none] at hcall
  have HW0 := Lib.hid hW0
  clear hW0 hT hp
  go_enter Try.func23, Try.ntmps23
  go_wp2_with (first
    | (go_at_call 63; rw [← HW0.out]; (with_reducible refine hcall.mono ?_); rintro e w1 ⟨rfl, hb1⟩))
  go_ret
  exact ⟨rfl, hB0.trans (hb1.mono hB0.size)⟩
/-- what Remove leaves where it returns true -/
def RemU (w : World) (X bits : Nat) (A : Pth → Option Nat) (c : Pth → Nat) (th : Pth → Bool) (id : Pth → Int) (N : Nat) (q : Pth) (e : Ending) (w' : World) : Prop :=
  e = .returned (.bool true) ∧ FrU (FtU X A) w w' ∧ ∃ N', TrieM w' X bits A (dmU c q) (updU th q false) id N' ∧ N' ≤ N
set_option maxRecDepth 100000 in
set_option maxHeartbeats 4000000 in
theorem ut_remIn {w : World} {X bits N : Nat} {A : Pth → Option Nat} {c : Pth → Nat} {th : Pth → Bool} {id : Pth → Int} (hT : TrieM w X bits A c th id N) (hW : CWf c th) (hb8 : bits ≤ 128) (hcb : ∀ r, c r < 1000000) (hN : N < 1000000) (v : Nat) (hv : v < 2 ^ 128) (m : Nat) (hp : preU bits v m) (ht0 : th (pthU bits v m) = true) :
    Calls Try.prog 23 #[.pointer (some ⟨X, 0, none⟩), .agg #[.int .u64 (hi v), .int .u64 (lo v)], .int .i64 m] w (RemU w X bits A c th id N (pthU bits v m)) := by
  refine (callsIn_wide (n := 9)).1 ?_
  refine callsIn_of_wp_marks Try.func23 rfl trivial ?_ rfl
  simp only [Try.ntmps23, List.size_toArray, List.length_cons, List.length_nil, Nat.reduceAdd, Nat.reduceSub, Array.replicate_succ, Array.replicate_zero, List.push_toArray, List.append_toArray, List.nil_append, List.cons_append]
  obtain ⟨W0, hW0⟩ : ∃ W0, W0 = ((w.alloc (.cells #[.pointer (some ⟨X, 0, none⟩)] 54)).alloc (.cells #[.int .u64 (hi v), .int .u64 (lo v)] 29)) := ⟨_, rfl⟩
  have hB0 : Below w.heap.size w W0 := by rw [hW0]; exact ((Below.refl _ w).alloc (Nat.le_refl _) _).alloc (by simp) _
  have hz0 : W0.heap.size = w.heap.size + 2 := by rw [hW0]; simp
  have a0 : W0.heap[w.heap.size]? = some (.cells #[.pointer (some ⟨X, 0, none⟩)] 54 (0, 0)) := by
    rw [hW0]; exact (Below.heap_alloc _ _ _ (by simp)).trans (heap_alloc_new _ _)
  have a1 : W0.heap[w.heap.size + 1]? = some (.cells #[.int .u64 (hi v), .int .u64 (lo v)] 29 (0, 0)) := by
    have h := heap_alloc_new (w.alloc (.cells #[.pointer (some ⟨X, 0, none⟩)] 54)) (.cells #[.int .u64 (hi v), .int .u64 (lo v)] 29)
    rw [World.size_alloc] at h
    rw [hW0]; exact h
  have HW0 := Lib.hid hW0
  have HB0 := Lib.hid hB0
  have hc0 := blk_cell a0 0 _ rfl
  have hc1 := blk_cell a1 0 _ rfl
  have hc2 := blk_cell a1 1 _ rfl
  rw [hW0] at hc0 hc1 hc2
  clear hW0
  have hmb : m ≤ bits := by have := hp.2.1; omega
  have hcq := hW.thc _ ht0
  have hcpre : ∀ p, p <+: pthU bits v m → 0 < c p := fun p hpp => by
    obtain ⟨t, ht⟩ := hpp
    have := hW.take p t
    rw [ht] at this
    omega
  obtain ⟨be, _, hAe⟩ := hT.lv hcq
  have hcall := ut_find (hT.below hB0) hW hb8 v hv m
  unfold fndU at hcall
  rw [Int.toNat_natCast, if_pos ⟨hp, ht0⟩, hAe] at hcall
  unfold ptU at hcall
  simp only [Option.map_some] at hcall
  have hbel : ∀ (w1 : World), Below W0.heap.size W0 w1 → Below w.heap.size w w1 := fun w1 h => HB0.out.trans (h.mono HB0.out.size)
  have hend : ∀ (w1 : World), Below W0.heap.size W0 w1 → w1.heap[be]? = some (.cells (ndU A c th id (pthU bits v m)) 137 (0, 0)) := fun w1 h => (hT.below (hbel w1 h)).node _ _ hAe
  have HE := Lib.hid hend
  obtain ⟨br, _, hAr⟩ := hT.lv (hcpre [] (List.nil_prefix))
  have hroot : ∀ (w1 : World), Below W0.heap.size W0 w1 → (w1.setCell ⟨be, 3, none⟩ (.bool false)).cell? ⟨X, 1, none⟩ = some (.pointer (some ⟨br, 0, none⟩)) := fun w1 h => by
    have hx := ((hT.below (hbel w1 h)).mark _ hAe false).box
    have := blk_cell hx 1 _ rfl
    unfold lvU at this
    rw [if_pos (hcpre [] (List.nil_prefix)), hAr] at this
    exact this
  have HR := Lib.hid hroot
  have hnX0 := (hT.below hB0).notA a0 (by simp)
  clear hend hroot hp
  gi_wp2_with fail
  refine ⟨trivial, ?_⟩
  rw [← HW0.out]
  refine (callsIn_wide.2 hcall).mono ?_
  rintro e w2 ⟨rfl, hb2⟩
  have q0 := (hb2.block _ (heap_ltU a0)).trans a0
  have q1 := (hb2.block _ (heap_ltU a1)).trans a1
  have y0 : (w2.setCell ⟨be, 3, none⟩ (.bool false)).cell? ⟨w.heap.size, 0, none⟩ = some (.pointer (some ⟨X, 0, none⟩)) := blk_cell ((setHU (fun e => hnX0.2 (pthU bits v m) (by rw [hAe, e]))).trans q0) 0 _ rfl
  have y3 : w2.cell? ⟨be, 3, none⟩ = some (.bool (th (pthU bits v m))) := blk_cell (HE.out _ hb2) 3 _ rfl
  have f3 : w2.frozen? ⟨be, 3, none⟩ = false := by simp [World.frozen?, HE.out _ hb2]
  have y4 := HR.out _ hb2
  clear hcall
  gi_wp2
  have hb02 : Below w.heap.size w w2 := HB0.out.trans (hb2.mono HB0.out.size)
  have hs2 := hb2.size
  -- the mark goes; the box of at
  have hTm := (hT.below hb02).mark _ hAe false
  obtain ⟨w3, hw3⟩ : ∃ w3, w3 = w2.setCell ⟨be, 3, none⟩ (.bool false) := ⟨_, rfl⟩
  have hfr3 : FrU (FtU X A) w w3 := by rw [hw3]; exact (FrU.of_below hb02).set (.inl (.inr ⟨_, hAe⟩)) _ _
  have hbe : be ≠ w.heap.size := fun e => hnX0.2 (pthU bits v m) (by rw [hAe, e])
  have hnX1 := (hT.below hB0).notA a1 (by simp)
  have hbe1 : be ≠ w.heap.size + 1 := fun e => hnX1.2 (pthU bits v m) (by rw [hAe, e])
  have r0 : w3.heap[w.heap.size]? = some (.cells #[.pointer (some ⟨X, 0, none⟩)] 54 (0, 0)) := by rw [hw3]; exact (setHU (fun e => hbe e.symm)).trans q0
  have r1 : w3.heap[w.heap.size + 1]? = some (.cells #[.int .u64 (hi v), .int .u64 (lo v)] 29 (0, 0)) := by rw [hw3]; exact (setHU (fun e => hbe1 e.symm)).trans q1
  rw [← hw3] at hTm
  have hz3 : w3.heap.size = w2.heap.size := by rw [hw3]; simp
  rw [← hw3]
  clear hw3 y0 y3 f3 y4 HR HE HB0 HW0 hc0 hc1 hc2 a0 a1 q0 q1
  obtain ⟨w4, hw4⟩ : ∃ w4, w4 = w3.alloc (.cells #[.pointer (some ⟨br, 0, none⟩)] 126) := ⟨_, rfl⟩
  have hB34 : Below w3.heap.size w3 w4 := by rw [hw4]; exact (Below.refl _ _).alloc (Nat.le_refl _) _
  have hz4 : w4.heap.size = w2.heap.size + 1 := by rw [hw4]; simp; exact hz3
  have t9 : w4.heap[w2.heap.size]? = some (.cells #[.pointer (some ⟨br, 0, none⟩)] 126 (0, 0)) := by rw [hw4, ← hz3]; exact heap_alloc_new _ _
  have hT4 := hTm.below hB34
  have s0 := (hB34.block _ (heap_ltU r0)).trans r0
  have s1 := (hB34.block _ (heap_ltU r1)).trans r1
  have hfr4 : FrU (FtU X A) w w4 := hfr3.trans (FrU.of_below hB34 (F := FtU X A)) (fun j h => .inl h)
  rw [← hw4]
  clear hw4 r0 r1
  -- region 6: the root
  have c0 := blk_cell s0 0 _ rfl
  have c9 := blk_cell t9 0 _ rfl
  have hmr := ut_lessRoot (hT4.aside (w' := w4.drew) (fun _ _ => rfl)) hAr (hcpre [] (List.nil_prefix)) (by have := hcb []; omega) (by omega)
  have hnb := hT4.notA s0 (by simp)
  have hn9 := hT4.notA t9 (by simp)
  have hF0 : ¬ FtU X A w.heap.size := by rintro (e | ⟨p, e⟩); exact hnb.1 e; exact hnb.2 p e
  have hF9 : ¬ FtU X A w2.heap.size := by rintro (e | ⟨p, e⟩); exact hn9.1 e; exact hn9.2 p e
  refine wpIn_wide.2 ?_
  refine wp_region_noPanic ?_
  refine wp_region_held_drew (S := fun w' => w'.cell? ⟨w.heap.size, 0, none⟩ = some (.pointer (some ⟨X, 0, none⟩)) ∧ w'.cell? ⟨w2.heap.size, 0, none⟩ = some (.pointer (some ⟨br, 0, none⟩))) (by kernel_rfl) ⟨c0, c9⟩ (fun hHeld => ?_)
  refine wpAnyH_take (i := 0) (v := ?_) rfl (by kernel_rfl) (by kernel_rfl) (by kernel_rfl) (fun _ _ _ h => h) (Or.inl ⟨by rfl, ?_⟩) hHeld ?_
  rotate_left
  · (intro w1 hSw; (try dsimp only at hSw); (try obtain ⟨sA, sB⟩ := hSw); go_simp; all_goals with_reducible rfl)
  (try go_frame)
  refine wpAnyH_take (i := 1) (v := ?_) rfl (by kernel_rfl) (by kernel_rfl) (by kernel_rfl) (fun _ _ _ h => h) (Or.inl ⟨by rfl, ?_⟩) hHeld ?_
  rotate_left
  · (intro w1 hSw; (try dsimp only at hSw); (try obtain ⟨sA, sB⟩ := hSw); go_simp; all_goals with_reducible rfl)
  (try go_frame)
  refine wpAnyH_take (i := 2) (v := ?_) rfl (by kernel_rfl) (by kernel_rfl) (by kernel_rfl) (fun _ _ _ h => h) (Or.inl ⟨by rfl, ?_⟩) hHeld ?_
  rotate_left
  · (intro w1 hSw; (try dsimp only at hSw); (try obtain ⟨sA, sB⟩ := hSw); go_simp; all_goals with_reducible rfl)
  (try go_frame)
  refine wpAnyH_ready (rs := [3]) (by kernel_rfl) (by simp) ?_
  refine AllReadyH.cons rfl (fun K hK => ?_) AllReadyH.nil
  go_simp
  go_wp2_with (go_at_call 68; (with_reducible refine hmr.mono ?_); rintro en w5 ⟨o5, rfl, hM⟩; have g0 : w5.cell? ⟨w.heap.size, 0, none⟩ = some (.pointer (some ⟨X, 0, none⟩)) := blk_cell ((hM.fr.block _ (heap_ltU s0) hF0).trans s0) 0 _ rfl; have g9 : w5.cell? ⟨w2.heap.size, 0, none⟩ = some (.pointer (some ⟨br, 0, none⟩)) := blk_cell ((hM.fr.block _ (heap_ltU t9) hF9).trans t9) 0 _ rfl; obtain ⟨csX, TX, vX, hX5, hvX⟩ := hM.at_; have g1 := blk_cell hX5 1 _ hvX; have g2 : w5.frozen? ⟨X, 1, none⟩ = false := by simp [World.frozen?, hX5])
  refine hK.out _ _ ?_ (fun hHeld2 => ?_)
  · exact ⟨g0, g9⟩
  clear hK K hHeld
  have hHeld := hHeld2
  clear hHeld2
  (try go_frame)
  refine wpAnyH_take (i := 4) (v := ?_) rfl (by kernel_rfl) (by kernel_rfl) (by kernel_rfl) (fun _ _ _ h => h) (Or.inl ⟨by rfl, ?_⟩) hHeld ?_
  rotate_left
  · (intro w1 hSw; (try dsimp only at hSw); (try obtain ⟨sA, sB⟩ := hSw); go_simp; all_goals with_reducible rfl)
  (try go_frame)
  refine wpAnyH_take (i := 5) (v := ?_) rfl (by kernel_rfl) (by kernel_rfl) (by kernel_rfl) (fun _ _ _ h => h) (Or.inl ⟨by rfl, ?_⟩) hHeld ?_
  rotate_left
  · (intro w1 hSw; (try dsimp only at hSw); (try obtain ⟨sA, sB⟩ := hSw); go_simp; all_goals with_reducible rfl)
  (try go_frame)
  refine wpAnyH_ready (rs := [6]) (by kernel_rfl) (by simp) ?_
  refine AllReadyH.cons rfl (fun K hK => ?_) AllReadyH.nil
  go_simp
  go_wp2_with fail
  refine hK.out _ _ ?_ (fun hHeld2 => ?_)
  · exact ⟨(World.cell?_setCell_far _ _ _ _ (by show X ≠ w.heap.size; exact fun e => hnb.1 e.symm)).trans g0, (World.cell?_setCell_far _ _ _ _ (by show X ≠ w2.heap.size; exact fun e => hn9.1 e.symm)).trans g9⟩
  clear hK K hHeld
  have hHeld := hHeld2
  clear hHeld2
  (try go_frame)
  refine wpAnyH_done (by kernel_rfl) ?_ _
  refine NoPanic.normal ?_
  obtain ⟨N5, hT6⟩ := hM.ex
  rw [dmU_nil] at hT6
  have hN5 : N5 ≤ N := num_leU hT6.num hT4.num (fun r h => by unfold dmU at h; omega)
  have hfr6 : FrU (FtU X A) w (w5.setCell ⟨X, 1, none⟩ (.pointer o5)) := (hfr4.drew.trans hM.fr (fun j h => .inl h)).set (.inl (.inl rfl)) _ _
  have u0 : (w5.setCell ⟨X, 1, none⟩ (.pointer o5)).heap[w.heap.size]? = some (.cells #[.pointer (some ⟨X, 0, none⟩)] 54 (0, 0)) := (setHU hnb.1).trans ((hM.fr.block _ (heap_ltU s0) hF0).trans s0)
  have hnb1 := hT4.notA s1 (by simp)
  have u1 : (w5.setCell ⟨X, 1, none⟩ (.pointer o5)).heap[w.heap.size + 1]? = some (.cells #[.int .u64 (hi v), .int .u64 (lo v)] 29 (0, 0)) := (setHU hnb1.1).trans ((hM.fr.block _ (heap_ltU s1) (by rintro (e | ⟨p, e⟩); exact hnb1.1 e; exact hnb1.2 p e)).trans s1)
  have u9 : (w5.setCell ⟨X, 1, none⟩ (.pointer o5)).heap[w2.heap.size]? = some (.cells #[.pointer (some ⟨br, 0, none⟩)] 126 (0, 0)) := (setHU hn9.1).trans ((hM.fr.block _ (heap_ltU t9) hF9).trans t9)
  have hz5 : w4.heap.size ≤ (w5.setCell ⟨X, 1, none⟩ (.pointer o5)).heap.size := by simp; exact hM.fr.size
  obtain ⟨w6, hw6⟩ : ∃ w6, w6 = w5.setCell ⟨X, 1, none⟩ (.pointer o5) := ⟨_, rfl⟩
  rw [← hw6] at hT6 hfr6 u0 u1 u9 hz5 ⊢
  clear hw6 hmr c0 c9 g0 g9 g1 g2 hX5 hHeld hM s0 s1 t9 hT4 hfr4 hfr3
  gi_wp2
  -- region 7: firstBits
  have hX6 := hT6.box
  have HKS : Hid (∀ w', Below w6.heap.size w6 w' → Below w6.heap.size w6 w' ∧ w'.cell? ⟨w.heap.size, 0, none⟩ = some (.pointer (some ⟨X, 0, none⟩)) ∧ w'.cell? ⟨w.heap.size + 1, 0, none⟩ = some (.int .u64 (hi v)) ∧ w'.cell? ⟨w.heap.size + 1, 1, none⟩ = some (.int .u64 (lo v)) ∧ w'.cell? ⟨X, 0, none⟩ = some (.int .i64 bits)) := Lib.hid fun w' hb => by
    have q0 := (hb.block _ (heap_ltU u0)).trans u0
    have q1 := (hb.block _ (heap_ltU u1)).trans u1
    have q3 := (hb.block _ (heap_ltU hX6)).trans hX6
    exact ⟨hb, blk_cell q0 0 _ rfl, blk_cell q1 0 _ rfl, blk_cell q1 1 _ rfl, blk_cell q3 0 _ rfl⟩
  refine wpIn_wide.2 ?_
  go_region_held3 (fun w' => Below w6.heap.size w6 w' ∧ w'.cell? ⟨w.heap.size, 0, none⟩ = some (.pointer (some ⟨X, 0, none⟩)) ∧ w'.cell? ⟨w.heap.size + 1, 0, none⟩ = some (.int .u64 (hi v)) ∧ w'.cell? ⟨w.heap.size + 1, 1, none⟩ = some (.int .u64 (lo v)) ∧ w'.cell? ⟨X, 0, none⟩ = some (.int .i64 bits))
    (first
      | exact HKS.out _ (Below.drew (Below.refl _ _))
      | exact HKS.out _ (below_call (And.left (by assumption)) (by assumption))
      | assumption)
    (first
      | (go_at_call 65; (with_reducible refine (ut_firstB v bits m _).mono ?_); rintro en w7 ⟨rfl, hv7, hfb⟩))
  rename_i hHeld
  have hB67 : Below w6.heap.size w6 w7 := hHeld.1
  have hz7 : w7.heap.size = w6.heap.size + 3 := by have := hfb.size; simp only [World.size_drew] at this; omega
  have d9 := (hB67.block _ (heap_ltU u9)).trans u9
  have f0 := hfb.bv
  have f1 := hfb.bb
  have f2 := hfb.bn
  simp only [World.size_drew] at f0 f1 f2
  have d0 := (hB67.block _ (heap_ltU u0)).trans u0
  have hT7 := hT6.below hB67
  have hfr7 : FrU (FtU X A) w w7 := hfr6.trans (FrU.of_below hB67 (F := FtU X A)) (fun j h => .inl h)
  clear HKS hHeld hfb hv7 u0 u1 u9
  unfold fvU
  gi_wp2
  have hXl := heap_ltU hT.box
  have hAl : ∀ p b, A p = some b → b < w.heap.size := fun p b hb => hT.ltA hb
  refine wp_rangeB (gf := 88) (lb := #[.pointer (some ⟨w6.heap.size + 2, 0, none⟩), .pointer (some ⟨w6.heap.size, 0, none⟩), .pointer (some ⟨w6.heap.size + 1, 0, none⟩)]) rfl (enters_of Try.func88 (by kernel_rfl) rfl)
    (ut_bits1_B (9 - 1) (by decide) (w6.heap.size + 2) w6.heap.size (w6.heap.size + 1) bits v m hv hmb hb8 w7 f2 f0 f1) KpZ.trans
    (fun W' o' => ⟨⟨World.putObj_heap_other (by omega), World.putObj_heap_other (by omega)⟩, by simp⟩) (Below.refl _ _) (fun _ => rfl)
    (fun pre W' => RemI w X bits A c (updU th (pthU bits v m) false) id N w.heap.size w2.heap.size pre W' ∧ (w7.heap.size ≤ W'.heap.size ∧ W'.heap[w6.heap.size]? = w7.heap[w6.heap.size]? ∧ W'.heap[w6.heap.size + 1]? = w7.heap[w6.heap.size + 1]?))
    (fun _ _ _ => False)
    (fun pre X1 X2 h hb => by
      obtain ⟨⟨⟨N', b, h1, h2, h3, h4⟩, h5, h6⟩, h7, h8, h9⟩ := h
      refine ⟨⟨⟨N', b, h1.aside fun j hj => hb.block j ?_, h2, (hb.block _ (by omega)).trans h3, h4⟩, h5.trans (F' := fun j => w.heap.size ≤ j) ⟨hb.os, hb.tape, hb.output, hb.size, fun j hj hn => hb.block j (by have : j < w.heap.size := Nat.lt_of_not_le hn; omega)⟩ (fun j h => .inr h), (hb.block _ (by omega)).trans h6⟩, Nat.le_trans h7 hb.size, (hb.block _ (by omega)).trans h8, (hb.block _ (by omega)).trans h9⟩
      rcases hj with e | ⟨p, e⟩
      · omega
      · have := hAl p j e; omega)
    (fun _ _ _ _ h _ => h)
    ⟨⟨⟨N5, br, hT7, hAr, d9, hN5⟩, hfr7, d0⟩, Nat.le_refl _, rfl, rfl⟩
    (fun x => { tmps := #[.pointer (some ⟨X, 0, none⟩), .agg #[.int .u64 (hi v), .int .u64 (lo v)], .int .i64 m, .pointer (some ⟨w.heap.size, 0, none⟩), .pointer (some ⟨w.heap.size + 1, 0, none⟩), undef, .bool false, .pointer (some ⟨be, 0, none⟩), .pointer (some ⟨w2.heap.size, 0, none⟩), .int .i64 (bU x), undef, .pointer (some ⟨X, 0, none⟩), .agg #[.int .u64 (hi v), .int .u64 (lo v)], .int .i64 m, .pointer (some ⟨be, 0, none⟩), .pointer (some ⟨be, 0, none⟩), .bool false, .pointer (some ⟨be, 0, none⟩), .pointer (some ⟨be, 0, none⟩), .pointer (some ⟨be, 3, none⟩), .pointer (some ⟨X, 0, none⟩), .pointer (some ⟨X, 0, none⟩), .pointer (some ⟨X, 1, none⟩), .pointer (some ⟨br, 0, none⟩), .pointer (some ⟨X, 0, none⟩), .pointer (some ⟨X, 0, none⟩), .pointer (some ⟨br, 0, none⟩), .pointer o5, .pointer (some ⟨X, 0, none⟩), .pointer (some ⟨X, 1, none⟩), .agg #[.int .u64 (hi v), .int .u64 (lo v)], .pointer (some ⟨X, 0, none⟩), .pointer (some ⟨X, 0, none⟩), .pointer (some ⟨X, 0, none⟩), .int .i64 bits, .int .i64 m, .func (.func 88) #[] #[.pointer (some ⟨w6.heap.size + 2, 0, none⟩), .pointer (some ⟨w6.heap.size, 0, none⟩), .pointer (some ⟨w6.heap.size + 1, 0, none⟩)], .int .i64 (bU x), undef, undef, undef, undef, undef, undef, undef, undef, undef, undef, undef, undef, undef, undef, undef], defers := [] })
    ?assign ?body ?done ?stop
  case assign =>
    intro l2 x W' K hK
    unfold encBU
    gi_wp2
    exact hK
  case body =>
    rintro l2 pre x W' hGd hlen ⟨hI, hz', hk1, hk2⟩
    obtain ⟨⟨N', b, h1, h2, h3, h4⟩, hfr, hbt⟩ := hI
    have hfol : Try.prog.follows .mixedOrders = true := by kernel_rfl
    have y9 := blk_cell h3 0 _ rfl
    have yt := blk_cell hbt 0 _ rfl
    have hnode := h1.node _ _ h2
    have n9 := h1.notA h3 (by simp)
    have nt := h1.notA hbt (by simp)
    have hb9 : (⟨b, ixU x, none⟩ : Addr).block ≠ w2.heap.size := fun e => n9.2 pre (by rw [h2]; exact congrArg some e)
    have hbt9 : (⟨b, ixU x, none⟩ : Addr).block ≠ w.heap.size := fun e => nt.2 pre (by rw [h2]; exact congrArg some e)
    have hc0 : dmU c pre (pre ++ [x]) = c (pre ++ [x]) := dmU_at c pre x
    have hcx := hcpre _ hGd
    obtain ⟨bc, hlv, hAc⟩ := h1.lv (p := pre ++ [x]) (by rw [hc0]; exact hcx)
    have hmr := ut_lessAt (h1.aside (w' := W'.drew) (fun _ _ => rfl)) pre x h2 hAc (by rw [hc0]; exact hcx) (by rw [hc0]; have := hcb (pre ++ [x]); omega) (by omega)
    have hFt : ∀ j, w.heap.size ≤ j → ¬ FtU X A j := by
      rintro j hj (e | ⟨p, e⟩)
      · omega
      · have := hAl p j e; omega
    have hst : ∀ w8 u, LessU W'.drew w8 X bits A (dmU c pre) (updU th (pthU bits v m) false) id b (ixU x) (pre ++ [x]) u → w8.cell? ⟨w2.heap.size, 0, none⟩ = some (.pointer (some ⟨b, 0, none⟩)) ∧ w8.cell? ⟨w.heap.size, 0, none⟩ = some (.pointer (some ⟨X, 0, none⟩)) := fun w8 u hM => ⟨blk_cell ((hM.fr.block _ (heap_ltU h3) (hFt _ (by omega))).trans h3) 0 _ rfl, blk_cell ((hM.fr.block _ (heap_ltU hbt) (hFt _ (Nat.le_refl _))).trans hbt) 0 _ rfl⟩
    have hf9 : ∀ w8 u, LessU W'.drew w8 X bits A (dmU c pre) (updU th (pthU bits v m) false) id b (ixU x) (pre ++ [x]) u → w8.frozen? ⟨w2.heap.size, 0, none⟩ = false := fun w8 u hM => by
      have := (hM.fr.block _ (heap_ltU h3) (hFt _ (by omega))).trans h3
      simp [World.frozen?, this]
    have hfin : ∀ w8 o8, LessU W'.drew w8 X bits A (dmU c pre) (updU th (pthU bits v m) false) id b (ixU x) (pre ++ [x]) (.pointer o8) → ∀ W9, W9 = (w8.setCell ⟨b, ixU x, none⟩ (.pointer o8)).setCell ⟨w2.heap.size, 0, none⟩ (.pointer (some ⟨bc, 0, none⟩)) → ∀ a', ownPostB w7.heap.size (KpZ w6.heap.size (w6.heap.size + 1)) (fun pre W' => RemI w X bits A c (updU th (pthU bits v m) false) id N w.heap.size w2.heap.size pre W' ∧ (w7.heap.size ≤ W'.heap.size ∧ W'.heap[w6.heap.size]? = w7.heap[w6.heap.size]? ∧ W'.heap[w6.heap.size + 1]? = w7.heap[w6.heap.size + 1]?)) (fun _ _ _ => False) (pre ++ [x]) W' .normal a' W9 := by
      rintro w8 o8 hM W9 rfl a'
      have hbl : b < w.heap.size := hAl _ _ h2
      have hs8 : W'.heap.size ≤ w8.heap.size := hM.fr.size
      have same : ∀ j, w.heap.size ≤ j → j ≠ w2.heap.size → j < W'.heap.size → ((w8.setCell ⟨b, ixU x, none⟩ (.pointer o8)).setCell ⟨w2.heap.size, 0, none⟩ (.pointer (some ⟨bc, 0, none⟩))).heap[j]? = W'.heap[j]? := fun j h1 h2 h3 => by
        rw [setHU h2, setHU (by omega)]
        exact hM.fr.block j h3 (hFt j h1)
      obtain ⟨N8, hT9⟩ := hM.ex
      rw [dmU_snoc] at hT9
      have e9 : (w8.setCell ⟨b, ixU x, none⟩ (.pointer o8)).heap[w2.heap.size]? = some (.cells #[.pointer (some ⟨b, 0, none⟩)] 126 (0, 0)) := (setHU (by omega)).trans ((hM.fr.block _ (heap_ltU h3) (hFt _ (by omega))).trans h3)
      have et : (w8.setCell ⟨b, ixU x, none⟩ (.pointer o8)).heap[w.heap.size]? = some (.cells #[.pointer (some ⟨X, 0, none⟩)] 54 (0, 0)) := (setHU (by omega)).trans ((hM.fr.block _ (heap_ltU hbt) (hFt _ (Nat.le_refl _))).trans hbt)
      have hN8 : N8 ≤ N' := num_leU hT9.num h1.num (fun r h => by
        rw [← dmU_snoc] at h
        by_cases e : r = pre ++ [x]
        · subst e; rw [hc0]; exact hcx
        · rw [updU_other _ _ e] at h; exact h)
      refine ⟨fun j h1 h2 => same j (by omega) (by omega) (by omega), ⟨⟨same _ (by omega) (by omega) (by omega), same _ (by omega) (by omega) (by omega)⟩, by simp; exact hs8⟩, ⟨⟨N8, bc, hT9.aside fun j hj => setHU (fun e => ?_), hAc, ?_, by omega⟩, ?_, ?_⟩, by simp; omega, (same _ (by omega) (by omega) (by omega)).trans hk1, (same _ (by omega) (by omega) (by omega)).trans hk2⟩
      · exact hFt w2.heap.size (by omega) (e ▸ hj)
      · rw [blk_set e9]; rfl
      · exact ((hfr.drew.trans hM.fr (fun j hj => .inl hj)).set (.inl (.inr ⟨_, h2⟩)) _ _).set (.inr (by exact (by omega))) _ _
      · rw [setHU (by omega)]; exact et
    cases x
    · have yc : W'.cell? ⟨b, 0, none⟩ = some (.pointer (some ⟨bc, 0, none⟩)) := by
        have := blk_cell hnode 0 (ptU (lvU A (dmU c pre) (pre ++ [false]))) rfl
        rw [hlv] at this
        exact this
      unfold bU
      simp only [Bool.false_eq_true, if_false]
      gi_wp2
      refine wp_round_held (S := fun w' => w'.cell? ⟨w2.heap.size, 0, none⟩ = some (.pointer (some ⟨b, 0, none⟩)) ∧ w'.cell? ⟨w.heap.size, 0, none⟩ = some (.pointer (some ⟨X, 0, none⟩))) hfol (by kernel_rfl) (fun ⟨_, _, h⟩ => h) ⟨y9, yt⟩ (fun hHeld => ?_)
      refine wpAnyH_take (i := 0) (v := ?_) rfl (by kernel_rfl) (by kernel_rfl) (by kernel_rfl) (fun _ _ _ h => h) (Or.inl ⟨by rfl, ?_⟩) hHeld ?_
      rotate_left
      · (intro w1 hSw; (try dsimp only at hSw); (try obtain ⟨sA, sB⟩ := hSw); go_simp; all_goals with_reducible rfl)
      (try go_frame)
      refine wpAnyH_take (i := 1) (v := ?_) rfl (by kernel_rfl) (by kernel_rfl) (by kernel_rfl) (fun _ _ _ h => h) (Or.inl ⟨by rfl, ?_⟩) hHeld ?_
      rotate_left
      · (intro w1 hSw; (try dsimp only at hSw); (try obtain ⟨sA, sB⟩ := hSw); go_simp; all_goals with_reducible rfl)
      (try go_frame)
      refine wpAnyH_take (i := 2) (v := ?_) rfl (by kernel_rfl) (by kernel_rfl) (by kernel_rfl) (fun _ _ _ h => h) (Or.inl ⟨by rfl, ?_⟩) hHeld ?_
      rotate_left
      · (intro w1 hSw; (try dsimp only at hSw); (try obtain ⟨sA, sB⟩ := hSw); go_simp; all_goals with_reducible rfl)
      (try go_frame)
      refine wpAnyH_take (i := 3) (v := ?_) rfl (by kernel_rfl) (by kernel_rfl) (by kernel_rfl) (fun _ _ _ h => h) (Or.inl ⟨by rfl, ?_⟩) hHeld ?_
      rotate_left
      · (intro w1 hSw; (try dsimp only at hSw); (try obtain ⟨sA, sB⟩ := hSw); go_simp; all_goals with_reducible rfl)
      (try go_frame)
      refine wpAnyH_take (i := 5) (v := ?_) rfl (by kernel_rfl) (by kernel_rfl) (by kernel_rfl) (fun _ _ _ h => h) (Or.inl ⟨by rfl, ?_⟩) hHeld ?_
      rotate_left
      · (intro w1 hSw; (try dsimp only at hSw); (try obtain ⟨sA, sB⟩ := hSw); go_simp; all_goals with_reducible rfl)
      (try go_frame)
      refine wpAnyH_take (i := 6) (v := ?_) rfl (by kernel_rfl) (by kernel_rfl) (by kernel_rfl) (fun _ _ _ h => h) (Or.inl ⟨by rfl, ?_⟩) hHeld ?_
      rotate_left
      · (intro w1 hSw; (try dsimp only at hSw); (try obtain ⟨sA, sB⟩ := hSw); go_simp; all_goals with_reducible rfl)
      (try go_frame)
      refine wpAnyH_ready (rs := [4]) (by kernel_rfl) (by simp) ?_
      refine AllReadyH.cons rfl (fun K hK => ?_) AllReadyH.nil
      go_simp
      go_wp2_with (go_at_call 68; (with_reducible refine hmr.mono ?_); rintro en w8 ⟨o8, rfl, hM⟩; obtain ⟨k9, kt⟩ := hst _ _ hM; obtain ⟨csP, TP, vP, hP5, hvP⟩ := hM.at_; have g1 : w8.cell? ⟨b, 0, none⟩ = some vP := blk_cell hP5 _ _ hvP; have g2 : w8.frozen? ⟨b, 0, none⟩ = false := by simp [World.frozen?, hP5])
      refine hK.out _ _ ?_ (fun hHeld2 => ?_)
      · exact ⟨k9, kt⟩
      clear hK K hHeld
      have hHeld := hHeld2
      clear hHeld2
      (try go_frame)
      refine wpAnyH_take (i := 7) (v := ?_) rfl (by kernel_rfl) (by kernel_rfl) (by kernel_rfl) (fun _ _ _ h => h) (Or.inl ⟨by rfl, ?_⟩) hHeld ?_
      rotate_left
      · (intro w1 hSw; (try dsimp only at hSw); (try obtain ⟨sA, sB⟩ := hSw); go_simp; all_goals with_reducible rfl)
      (try go_frame)
      refine wpAnyH_ready (rs := [8]) (by kernel_rfl) (by simp) ?_
      refine AllReadyH.cons rfl (fun K hK => ?_) AllReadyH.nil
      go_simp
      go_wp2_with fail
      refine hK.out _ _ ?_ (fun hHeld2 => ?_)
      · exact ⟨(World.cell?_setCell_far _ _ _ _ hb9).trans k9, (World.cell?_setCell_far _ _ _ _ hbt9).trans kt⟩
      clear hK K hHeld
      have hHeld := hHeld2
      clear hHeld2
      (try go_frame)
      refine wpAnyH_done (by kernel_rfl) ?_ _
      have m9 : (w8.setCell ⟨b, 0, none⟩ (.pointer o8)).cell? ⟨w2.heap.size, 0, none⟩ = some (.pointer (some ⟨b, 0, none⟩)) := (World.cell?_setCell_far _ _ _ _ hb9).trans k9
      have mf : (w8.setCell ⟨b, 0, none⟩ (.pointer o8)).frozen? ⟨w2.heap.size, 0, none⟩ = false := by rw [World.frozen?_setCell]; exact hf9 _ _ hM
      gi_wp2
      exact hfin _ _ hM _ rfl ⟨#[], []⟩
    · have yc : W'.cell? ⟨b, 1, none⟩ = some (.pointer (some ⟨bc, 0, none⟩)) := by
        have := blk_cell hnode 1 (ptU (lvU A (dmU c pre) (pre ++ [true]))) rfl
        rw [hlv] at this
        exact this
      unfold bU
      simp only [if_true]
      gi_wp2
      refine wp_round_held (S := fun w' => w'.cell? ⟨w2.heap.size, 0, none⟩ = some (.pointer (some ⟨b, 0, none⟩)) ∧ w'.cell? ⟨w.heap.size, 0, none⟩ = some (.pointer (some ⟨X, 0, none⟩))) hfol (by kernel_rfl) (fun ⟨_, _, h⟩ => h) ⟨y9, yt⟩ (fun hHeld => ?_)
      refine wpAnyH_take (i := 0) (v := ?_) rfl (by kernel_rfl) (by kernel_rfl) (by kernel_rfl) (fun _ _ _ h => h) (Or.inl ⟨by rfl, ?_⟩) hHeld ?_
      rotate_left
      · (intro w1 hSw; (try dsimp only at hSw); (try obtain ⟨sA, sB⟩ := hSw); go_simp; all_goals with_reducible rfl)
      (try go_frame)
      refine wpAnyH_take (i := 1) (v := ?_) rfl (by kernel_rfl) (by kernel_rfl) (by kernel_rfl) (fun _ _ _ h => h) (Or.inl ⟨by rfl, ?_⟩) hHeld ?_
      rotate_left
      · (intro w1 hSw; (try dsimp only at hSw); (try obtain ⟨sA, sB⟩ := hSw); go_simp; all_goals with_reducible rfl)
      (try go_frame)
      refine wpAnyH_take (i := 2) (v := ?_) rfl (by kernel_rfl) (by kernel_rfl) (by kernel_rfl) (fun _ _ _ h => h) (Or.inl ⟨by rfl, ?_⟩) hHeld ?_
      rotate_left
      · (intro w1 hSw; (try dsimp only at hSw); (try obtain ⟨sA, sB⟩ := hSw); go_simp; all_goals with_reducible rfl)
      (try go_frame)
      refine wpAnyH_take (i := 3) (v := ?_) rfl (by kernel_rfl) (by kernel_rfl) (by kernel_rfl) (fun _ _ _ h => h) (Or.inl ⟨by rfl, ?_⟩) hHeld ?_
      rotate_left
      · (intro w1 hSw; (try dsimp only at hSw); (try obtain ⟨sA, sB⟩ := hSw); go_simp; all_goals with_reducible rfl)
      (try go_frame)
      refine wpAnyH_take (i := 5) (v := ?_) rfl (by kernel_rfl) (by kernel_rfl) (by kernel_rfl) (fun _ _ _ h => h) (Or.inl ⟨by rfl, ?_⟩) hHeld ?_
      rotate_left
      · (intro w1 hSw; (try dsimp only at hSw); (try obtain ⟨sA, sB⟩ := hSw); go_simp; all_goals with_reducible rfl)
      (try go_frame)
      refine wpAnyH_take (i := 6) (v := ?_) rfl (by kernel_rfl) (by kernel_rfl) (by kernel_rfl) (fun _ _ _ h => h) (Or.inl ⟨by rfl, ?_⟩) hHeld ?_
      rotate_left
      · (intro w1 hSw; (try dsimp only at hSw); (try obtain ⟨sA, sB⟩ := hSw); go_simp; all_goals with_reducible rfl)
      (try go_frame)
      refine wpAnyH_ready (rs := [4]) (by kernel_rfl) (by simp) ?_
      refine AllReadyH.cons rfl (fun K hK => ?_) AllReadyH.nil
      go_simp
      go_wp2_with (go_at_call 68; (with_reducible refine hmr.mono ?_); rintro en w8 ⟨o8, rfl, hM⟩; obtain ⟨k9, kt⟩ := hst _ _ hM; obtain ⟨csP, TP, vP, hP5, hvP⟩ := hM.at_; have g1 : w8.cell? ⟨b, 1, none⟩ = some vP := blk_cell hP5 _ _ hvP; have g2 : w8.frozen? ⟨b, 1, none⟩ = false := by simp [World.frozen?, hP5])
      refine hK.out _ _ ?_ (fun hHeld2 => ?_)
      · exact ⟨k9, kt⟩
      clear hK K hHeld
      have hHeld := hHeld2
      clear hHeld2
      (try go_frame)
      refine wpAnyH_take (i := 7) (v := ?_) rfl (by kernel_rfl) (by kernel_rfl) (by kernel_rfl) (fun _ _ _ h => h) (Or.inl ⟨by rfl, ?_⟩) hHeld ?_
      rotate_left
      · (intro w1 hSw; (try dsimp only at hSw); (try obtain ⟨sA, sB⟩ := hSw); go_simp; all_goals with_reducible rfl)
      (try go_frame)
      refine wpAnyH_ready (rs := [8]) (by kernel_rfl) (by simp) ?_
      refine AllReadyH.cons rfl (fun K hK => ?_) AllReadyH.nil
      go_simp
      go_wp2_with fail
      refine hK.out _ _ ?_ (fun hHeld2 => ?_)
      · exact ⟨(World.cell?_setCell_far _ _ _ _ hb9).trans k9, (World.cell?_setCell_far _ _ _ _ hbt9).trans kt⟩
      clear hK K hHeld
      have hHeld := hHeld2
      clear hHeld2
      (try go_frame)
      refine wpAnyH_done (by kernel_rfl) ?_ _
      have m9 : (w8.setCell ⟨b, 1, none⟩ (.pointer o8)).cell? ⟨w2.heap.size, 0, none⟩ = some (.pointer (some ⟨b, 0, none⟩)) := (World.cell?_setCell_far _ _ _ _ hb9).trans k9
      have mf : (w8.setCell ⟨b, 1, none⟩ (.pointer o8)).frozen? ⟨w2.heap.size, 0, none⟩ = false := by rw [World.frozen?_setCell]; exact hf9 _ _ hM
      gi_wp2
      exact hfin _ _ hM _ rfl ⟨#[], []⟩
  case done =>
    rintro D2 ys W' hD rfl ⟨hI, hz', hk1, hk2⟩ hK
    obtain ⟨⟨N', b, h1, h2, h3, h4⟩, hfr, hbt⟩ := hI
    gi_wp2
    refine ⟨by simp, .inl ⟨_, _, rfl, run_takeDeferred hK, ?_⟩⟩
    refine ⟨_, results_tmp rfl _ _ _, rfl, hfr.putU D2 _ (by omega), N', h1.aside (fun j hj => World.putObj_heap_other (fun e => ?_)), h4⟩
    have := h1.cells j _ hj (by rw [e]; exact hK)
    cases this
  case stop =>
    rintro D2 cd pre W' _ _ h _
    exact h.elim
end Go.Proofs.Ytmlocfojmncghaa
