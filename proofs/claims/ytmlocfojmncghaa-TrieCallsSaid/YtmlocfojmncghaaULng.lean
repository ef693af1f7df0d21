/- Layer 12: the program's Longest, and Get. -/
import Derived.Test.YtmlocfojmncghaaURem
namespace Go.Proofs.Ytmlocfojmncghaa
open Go.RowKit Go.Shelf
attribute [local go_sem] Oper.semAt_some
/-- the longest so far -/
def stpU (th : Pth → Bool) (id : Pth → Int) (p : Pth) (a : Nat × Int × Bool) : Nat × Int × Bool := if th p = true then (p.length, id p, true) else a
/-- the longest on the way q from p on -/
def lgU (th : Pth → Bool) (id : Pth → Int) : Pth → Pth → Nat × Int × Bool → Nat × Int × Bool
  | p, [], a => stpU th id p a
  | p, x :: q, a => lgU th id (p ++ [x]) q (stpU th id p a)
theorem lgU_none {c : Pth → Nat} {th : Pth → Bool} (hW : CWf c th) (id : Pth → Int) : ∀ (q p : Pth) (a : Nat × Int × Bool), c p = 0 → lgU th id p q a = a
  | [], p, a, h => by
    have ht : th p = false := by cases ht : th p with | false => rfl | true => (have := hW.thc _ ht; omega)
    simp [lgU, stpU, ht]
  | x :: q, p, a, h => by
    have ht : th p = false := by cases ht : th p with | false => rfl | true => (have := hW.thc _ ht; omega)
    rw [lgU, lgU_none hW id q (p ++ [x]) _ (by have := hW.mono p x; omega)]
    simp [stpU, ht]
theorem lgU_congr {th th' : Pth → Bool} {id id' : Pth → Int} (h : ∀ p, th p = th' p ∧ (th p = true → id p = id' p)) : ∀ (q p : Pth) (a : Nat × Int × Bool), lgU th id p q a = lgU th' id' p q a := by
  have hs : ∀ p a, stpU th id p a = stpU th' id' p a := fun p a => by
    unfold stpU
    rw [← (h p).1]
    by_cases ht : th p = true
    · rw [if_pos ht, if_pos ht, (h p).2 ht]
    · rw [if_neg ht, if_neg ht]
  intro q
  induction q with
  | nil => intro p a; simp only [lgU, hs]
  | cons x q ih => intro p a; simp only [lgU, hs]; exact ih _ _
/-- the longest of a part of the way -/
def accU (th : Pth → Bool) (id : Pth → Int) (q : Pth) (ys : List (Nat × Nat)) : Nat × Int × Bool := ys.foldl (fun a y => stpU th id (q.take y.1) a) (0, 0, false)
theorem accU_snoc (th : Pth → Bool) (id : Pth → Int) (q : Pth) (ys : List (Nat × Nat)) (y : Nat × Nat) : accU th id q (ys ++ [y]) = stpU th id (q.take y.1) (accU th id q ys) := by simp [accU]
theorem fold_lgU {A : Pth → Option Nat} {c : Pth → Nat} {th : Pth → Bool} (hW : CWf c th) (hA : ∀ p, 0 < c p → ∃ b, A p = some b) (id : Pth → Int) (full : Pth) : ∀ (q p : Pth) (a : Nat × Int × Bool), full = p ++ q → (wlU A c p q).foldl (fun a y => stpU th id (full.take y.1) a) a = lgU th id p q a := by
  intro q
  induction q with
  | nil =>
    intro p a hf
    by_cases hc : 0 < c p
    · obtain ⟨b, hb⟩ := hA p hc
      rw [wlU_nil (b := b) (by unfold lvU; rw [if_pos hc]; exact hb)]
      rw [List.append_nil] at hf
      subst hf
      simp [lgU]
    · rw [wlU_none (by unfold lvU; rw [if_neg hc]), lgU_none hW id _ _ _ (by omega)]
      rfl
  | cons x q ih =>
    intro p a hf
    by_cases hc : 0 < c p
    · obtain ⟨b, hb⟩ := hA p hc
      rw [wlU_cons (b := b) (by unfold lvU; rw [if_pos hc]; exact hb), List.foldl_cons, ih _ _ (by rw [hf]; simp)]
      rw [lgU]
      subst hf
      simp
    · rw [wlU_none (by unfold lvU; rw [if_neg hc]), lgU_none hW id _ _ _ (by omega)]
      rfl
theorem wlU_takeU {A : Pth → Option Nat} {c : Pth → Nat} {q : Pth} {d b : Nat} (h : (d, b) ∈ wlU A c [] q) : lvU A c (q.take d) = some b ∧ d ≤ q.length ∧ (q.take d).length = d := by
  obtain ⟨k, h1, h2, h3⟩ := wlU_mem _ _ h
  rw [List.length_nil, Nat.zero_add] at h2
  subst h2
  exact ⟨by simpa using h3, h1, by simp; omega⟩
theorem lv_someU {A : Pth → Option Nat} {c : Pth → Nat} {p : Pth} {b : Nat} (h : lvU A c p = some b) : A p = some b := by
  unfold lvU at h; split at h; exact h; cases h
set_option maxRecDepth 100000 in
set_option maxHeartbeats 1000000 in
theorem ut_lngNil (v : Nat) (w : World) : Calls Try.prog 34 #[.pointer none, .agg #[.int .u64 (hi v), .int .u64 (lo v)]] w (RetX (.tuple #[.int .i64 0, .int .i64 0, .bool false]) w) := by
  go_enter Try.func34, Try.ntmps34
  go_upto_region 1 with fail
  go_quiet (fail)
  all_goals go_wp2
  all_goals refine bodyPost_ret (v := .tuple #[.int .i64 0, .int .i64 0, .bool false]) (by simp [results, Try.results34, go_sem]) rfl ?_
  all_goals exact ⟨rfl, ((Below.refl _ w).alloc (Nat.le_refl _) _).trans (below_dnU _ _ _)⟩
/-- what Longest answers -/
def lngU (th : Pth → Bool) (id : Pth → Int) (bits v : Nat) : Nat × Int × Bool := if (bitLen v : Int) ≤ bits then lgU th id [] (pthU bits v bits) (0, 0, false) else (0, 0, false)
/-- halfway through Longest -/
structure LngI (w : World) (th : Pth → Bool) (id : Pth → Int) (q : Pth) (z : Nat) (pre : List (Nat × Nat)) (W : World) : Prop where
  l : W.heap[z]? = some (.cells #[.int .i64 ((accU th id q pre).1 : Int)] 3 (0, 0))
  i : W.heap[z + 1]? = some (.cells #[.int .i64 (accU th id q pre).2.1] 3 (0, 0))
  f : W.heap[z + 1 + 1]? = some (.cells #[.bool (accU th id q pre).2.2] 4 (0, 0))
  below : Below w.heap.size w W
theorem LngI.skip {w : World} {th : Pth → Bool} {id : Pth → Int} {q : Pth} {z : Nat} {pre : List (Nat × Nat)} {W : World} (h : LngI w th id q z pre W) {d b : Nat} (ht : th (q.take d) = false) : LngI w th id q z (pre ++ [(d, b)]) W := by
  have e : accU th id q (pre ++ [(d, b)]) = accU th id q pre := by
    rw [accU_snoc]; unfold stpU; rw [if_neg (by rw [ht]; simp)]
  exact ⟨by rw [e]; exact h.l, by rw [e]; exact h.i, by rw [e]; exact h.f, h.below⟩
theorem LngI.take {w : World} {th : Pth → Bool} {id : Pth → Int} {q : Pth} {z : Nat} {pre : List (Nat × Nat)} {W : World} (h : LngI w th id q z pre W) {d b : Nat} (ht : th (q.take d) = true) (hd : (q.take d).length = d) (hz : w.heap.size ≤ z) : LngI w th id q z (pre ++ [(d, b)]) (((W.setCell ⟨z, 0, none⟩ (.int .i64 (d : Int))).setCell ⟨z + 1, 0, none⟩ (.int .i64 (id (q.take d)))).setCell ⟨z + 1 + 1, 0, none⟩ (.bool true)).drew := by
  have e : accU th id q (pre ++ [(d, b)]) = (d, id (q.take d), true) := by
    rw [accU_snoc]; unfold stpU; rw [if_pos ht, hd]
  refine ⟨?_, ?_, ?_, ?_⟩
  · rw [e]
    show (((W.setCell _ _).setCell _ _).setCell _ _).heap[z]? = _
    rw [setHU (by omega), setHU (by omega), blk_set h.l]; rfl
  · rw [e]
    show (((W.setCell _ _).setCell _ _).setCell _ _).heap[z + 1]? = _
    rw [setHU (by omega), blk_set (by rw [setHU (by omega)]; exact h.i)]; rfl
  · rw [e]
    show (((W.setCell _ _).setCell _ _).setCell _ _).heap[z + 1 + 1]? = _
    rw [blk_set (by rw [setHU (by omega), setHU (by omega)]; exact h.f)]; rfl
  · exact (((h.below.setCell (p := ⟨z, 0, none⟩) hz _).setCell (p := ⟨z + 1, 0, none⟩) (by show w.heap.size ≤ z + 1; omega) _).setCell (p := ⟨z + 1 + 1, 0, none⟩) (by show w.heap.size ≤ z + 1 + 1; omega) _).drew
set_option maxRecDepth 100000 in
set_option maxHeartbeats 4000000 in
theorem ut_lng {w : World} {X bits N : Nat} {A : Pth → Option Nat} {c : Pth → Nat} {th : Pth → Bool} {id : Pth → Int} (hT : TrieM w X bits A c th id N) (hW : CWf c th) (hb8 : bits ≤ 128) (v : Nat) (hv : v < 2 ^ 128) :
    Calls Try.prog 34 #[.pointer (some ⟨X, 0, none⟩), .agg #[.int .u64 (hi v), .int .u64 (lo v)]] w (RetX (.tuple #[.int .i64 ((lngU th id bits v).1 : Int), .int .i64 (lngU th id bits v).2.1, .bool (lngU th id bits v).2.2]) w) := by
  refine (callsIn_wide (n := 9)).1 ?_
  refine callsIn_of_wp_marks Try.func34 rfl trivial ?_ rfl
  simp only [Try.ntmps34, List.size_toArray, List.length_cons, List.length_nil, Nat.reduceAdd, Nat.reduceSub, Array.replicate_succ, Array.replicate_zero, List.push_toArray, List.append_toArray, List.nil_append, List.cons_append]
  obtain ⟨W0, hW0⟩ : ∃ W0, W0 = w.alloc (.cells #[.int .u64 (hi v), .int .u64 (lo v)] 29) := ⟨_, rfl⟩
  have hB0 : Below w.heap.size w W0 := by rw [hW0]; exact (Below.refl _ w).alloc (Nat.le_refl _) _
  have hz0 : W0.heap.size = w.heap.size + 1 := by rw [hW0]; simp
  have a0 : W0.heap[w.heap.size]? = some (.cells #[.int .u64 (hi v), .int .u64 (lo v)] 29 (0, 0)) := by rw [hW0]; exact heap_alloc_new _ _
  have a1 := (hT.below hB0).box
  have hf0 : ∀ W, Calls Try.prog 72 #[.agg #[.int .u64 (hi v), .int .u64 (lo v)], .int .i64 bits] W (RetX (.bool (decide ((bitLen v : Int) ≤ bits))) W) := fun W => fits_any v bits hv W
  obtain ⟨fit, hfit⟩ : ∃ b, b = decide ((bitLen v : Int) ≤ bits) := ⟨_, rfl⟩
  rw [← hfit] at hf0
  have HKS : Hid (∀ w', Below W0.heap.size W0 w' → Below W0.heap.size W0 w' ∧ w'.cell? ⟨w.heap.size, 0, none⟩ = some (.int .u64 (hi v)) ∧ w'.cell? ⟨w.heap.size, 1, none⟩ = some (.int .u64 (lo v)) ∧ w'.cell? ⟨X, 0, none⟩ = some (.int .i64 bits)) := Lib.hid fun w' hb => by
    have q0 := (hb.block _ (heap_ltU a0)).trans a0
    have q1 := (hb.block _ (heap_ltU a1)).trans a1
    exact ⟨hb, blk_cell q0 0 _ rfl, blk_cell q0 1 _ rfl, blk_cell q1 0 _ rfl⟩
  obtain ⟨res, hres⟩ : ∃ r, r = lngU th id bits v := ⟨_, rfl⟩
  rw [← hres]
  have HRES := Lib.hid hres
  have HFIT := Lib.hid hfit
  have HA0 := Lib.hid a0
  have HB0 := Lib.hid hB0
  have HW0 := Lib.hid hW0
  clear hres hfit a0 a1 hB0 hW0
  gi_wp2
  rw [← HW0.out]
  refine wpIn_wide.2 ?_
  go_region_held3 (fun w' => Below W0.heap.size W0 w' ∧ w'.cell? ⟨w.heap.size, 0, none⟩ = some (.int .u64 (hi v)) ∧ w'.cell? ⟨w.heap.size, 1, none⟩ = some (.int .u64 (lo v)) ∧ w'.cell? ⟨X, 0, none⟩ = some (.int .i64 bits))
    (first
      | exact HKS.out _ (Below.drew (Below.refl _ _))
      | exact HKS.out _ (below_call (And.left (by assumption)) (by assumption))
      | assumption)
    (first
      | (go_at_call 72; (with_reducible refine (hf0 _).mono ?_); rintro en w1 ⟨rfl, hb1⟩))
  rename_i hHeld
  have hb01 : Below w.heap.size w w1 := HB0.out.trans (hHeld.1.mono HB0.out.size)
  cases fit with
  | false =>
    gi_wp2
    have hr := HRES.out
    unfold lngU at hr
    rw [if_neg (of_decide_eq_false HFIT.out.symm)] at hr
    refine ⟨_, ?_, rfl, hb01⟩
    rw [hr]
    simp [results, Try.results34, go_sem]
  | true =>
    have hfb : (bitLen v : Int) ≤ bits := of_decide_eq_true HFIT.out.symm
    have hr := HRES.out
    unfold lngU at hr
    rw [if_pos hfb] at hr
    have HR := Lib.hid hr
    clear hr HRES HFIT
    gi_wp2
    obtain ⟨w3, hw3⟩ : ∃ w3, w3 = (((w1.alloc (.cells #[.int .i64 0] 3)).alloc (.cells #[.int .i64 0] 3)).alloc (.cells #[.bool false] 4)) := ⟨_, rfl⟩
    have hB13 : Below w1.heap.size w1 w3 := by rw [hw3]; exact (((Below.refl _ w1).alloc (Nat.le_refl _) _).alloc (by simp) _).alloc (by simp; omega) _
    have hz3 : w3.heap.size = w1.heap.size + 3 := by rw [hw3]; simp
    have e0 : w3.heap[w1.heap.size]? = some (.cells #[.int .i64 0] 3 (0, 0)) := by
      rw [hw3]; exact (Below.heap_alloc _ _ _ (by simp; omega)).trans ((Below.heap_alloc _ _ _ (by simp)).trans (heap_alloc_new _ _))
    have e1 : w3.heap[w1.heap.size + 1]? = some (.cells #[.int .i64 0] 3 (0, 0)) := by
      have h := heap_alloc_new (w1.alloc (.cells #[.int .i64 0] 3)) (.cells #[.int .i64 0] 3)
      rw [World.size_alloc] at h
      rw [hw3]; exact (Below.heap_alloc _ _ _ (by simp)).trans h
    have e2 : w3.heap[w1.heap.size + 1 + 1]? = some (.cells #[.bool false] 4 (0, 0)) := by
      have h := heap_alloc_new ((w1.alloc (.cells #[.int .i64 0] 3)).alloc (.cells #[.int .i64 0] 3)) (.cells #[.bool false] 4)
      rw [World.size_alloc, World.size_alloc] at h
      rw [hw3]; exact h
    rw [← hw3]
    have hs1 := hHeld.1.size
    have hBW3 : Below W0.heap.size W0 w3 := hHeld.1.trans (hB13.mono hHeld.1.size)
    clear hw3 hHeld hb1
    refine wpIn_wide.2 ?_
    go_region_held3 (fun w' => Below w3.heap.size w3 w' ∧ w'.cell? ⟨w.heap.size, 0, none⟩ = some (.int .u64 (hi v)) ∧ w'.cell? ⟨w.heap.size, 1, none⟩ = some (.int .u64 (lo v)) ∧ w'.cell? ⟨X, 0, none⟩ = some (.int .i64 bits))
      (first
        | exact ⟨Below.drew (Below.refl _ _), (HKS.out _ hBW3.drew).2⟩
        | (have hcc := And.left (by assumption : Below w3.heap.size w3 _ ∧ _); exact ⟨hcc, (HKS.out _ (hBW3.trans (hcc.mono hBW3.size))).2⟩)
        | exact ⟨below_call (And.left (by assumption)) (by assumption), (HKS.out _ (hBW3.trans ((below_call (And.left (by assumption)) (by assumption) : Below w3.heap.size w3 _).mono hBW3.size))).2⟩
        | assumption)
      (first
        | (go_at_call 73; (with_reducible refine (ut_way X v bits _).mono ?_); rintro en w4 ⟨rfl, hv4, hwb⟩))
    rename_i hHeld
    have hB34 : Below w3.heap.size w3 w4 := hHeld.1
    have hz4 := hwb.size
    simp only [World.size_drew] at hz4
    have g0 := (hB34.block _ (heap_ltU e0)).trans e0
    have g1 := (hB34.block _ (heap_ltU e1)).trans e1
    have g2 := (hB34.block _ (heap_ltU e2)).trans e2
    have hs01 := hb01.size
    have hb04 : Below w.heap.size w w4 := (hb01.trans (hB13.mono hb01.size)).trans (hB34.mono (by omega))
    have hT4 := hT.below hb04
    have hXl := heap_ltU hT.box
    have bt := hwb.bt
    have bv := hwb.bv
    have bn := hwb.bn
    simp only [World.size_drew] at bt bv bn
    rw [hz3] at bt bv bn
    clear hHeld hv4 hwb HKS
    unfold wvU
    gi_wp2
    refine wp_rangeB (gf := 94) (lb := #[.pointer (some ⟨w1.heap.size + 3, 0, none⟩), .pointer (some ⟨w1.heap.size + 3 + 1, 0, none⟩), .pointer (some ⟨w1.heap.size + 3 + 2, 0, none⟩)]) rfl (enters_of Try.func94 (by kernel_rfl) rfl)
      (ut_way1_B (9 - 1) (by decide) (w1.heap.size + 3) bits v bits hv (Nat.le_refl _) hb8 (fun j => (w1.heap.size ≤ j ∧ j ≤ w1.heap.size + 2) ∨ j = w4.heap.size + 1) w4 hT4 (by rintro (h | h) <;> omega) (fun p b hb => by have := hT.ltA hb; rintro (h | h) <;> omega) (by rintro j (h | h) <;> omega) bt bv bn) KBU.trans
      (fun W' o' => (KBU.refl _ _).put (.inr rfl) o') (Below.refl _ _) (fun _ => rfl)
      (fun pre W' => LngI w th id (pthU bits v bits) w1.heap.size pre W')
      (fun _ _ _ => False)
      (fun pre X1 X2 h hb => ⟨(hb.block _ (by omega)).trans h.l, (hb.block _ (by omega)).trans h.i, (hb.block _ (by omega)).trans h.f, h.below.trans (hb.mono (by omega))⟩)
      (fun _ _ _ _ h _ => h)
      ⟨g0, g1, g2, hb04⟩
      (fun x => { tmps := #[.pointer (some ⟨X, 0, none⟩), .agg #[.int .u64 (hi v), .int .u64 (lo v)], undef, .pointer (some ⟨w.heap.size, 0, none⟩), .int .i64 0, .int .i64 0, .bool false, .pointer (some ⟨w1.heap.size, 0, none⟩), .pointer (some ⟨w1.heap.size + 1, 0, none⟩), .pointer (some ⟨w1.heap.size + 1 + 1, 0, none⟩), .int .i64 (x.1 : Int), .pointer (some ⟨x.2, 0, none⟩), .pointer (some ⟨X, 0, none⟩), .bool false, .bool false, .agg #[.int .u64 (hi v), .int .u64 (lo v)], .pointer (some ⟨X, 0, none⟩), .pointer (some ⟨X, 0, none⟩), .pointer (some ⟨X, 0, none⟩), .int .i64 bits, .bool true, .bool false, .bool false, .pointer (some ⟨X, 0, none⟩), .agg #[.int .u64 (hi v), .int .u64 (lo v)], .pointer (some ⟨X, 0, none⟩), .pointer (some ⟨X, 0, none⟩), .pointer (some ⟨X, 0, none⟩), .int .i64 bits, .func (.func 94) #[] #[.pointer (some ⟨w1.heap.size + 3, 0, none⟩), .pointer (some ⟨w1.heap.size + 3 + 1, 0, none⟩), .pointer (some ⟨w1.heap.size + 3 + 2, 0, none⟩)], .int .i64 (x.1 : Int), .pointer (some ⟨x.2, 0, none⟩), undef, undef, undef, undef, undef, undef, undef, undef, undef, undef, undef, undef], defers := [] })
      ?assign ?body ?done ?stop
    case assign =>
      intro l2 x W' K hK
      unfold encWU
      gi_wp2
      exact hK
    case body =>
      rintro l2 pre ⟨d, b⟩ W' hGd hz' hI
      obtain ⟨hlv, hd1, hd2⟩ := wlU_takeU (hGd.subset (List.mem_append.2 (.inr (List.mem_singleton.2 rfl))))
      have hA := lv_someU hlv
      have hfol : Try.prog.follows .mixedOrders = true := by kernel_rfl
      have hn := (hT.below hI.below).node _ _ hA
      have y3 : W'.cell? ⟨b, 3, none⟩ = some (.bool (th ((pthU bits v bits).take d))) := blk_cell hn 3 _ rfl
      have y4 : W'.cell? ⟨b, 4, none⟩ = some (.int .i64 (id ((pthU bits v bits).take d))) := blk_cell hn 4 _ rfl
      have hbl : b < w.heap.size := hT.ltA hA
      cases ht : th ((pthU bits v bits).take d) with
      | false =>
        rw [ht] at y3
        gi_wp2
        exact ⟨fun _ _ _ => rfl, KBU.refl _ _, hI.skip ht⟩
      | true =>
        rw [ht] at y3
        have k0 := blk_cell hI.l 0 _ rfl
        have k1 := blk_cell hI.i 0 _ rfl
        have k2 := blk_cell hI.f 0 _ rfl
        have q0 : W'.frozen? ⟨w1.heap.size, 0, none⟩ = false := by simp [World.frozen?, hI.l]
        have q1 : W'.frozen? ⟨w1.heap.size + 1, 0, none⟩ = false := by simp [World.frozen?, hI.i]
        have q2 : W'.frozen? ⟨w1.heap.size + 1 + 1, 0, none⟩ = false := by simp [World.frozen?, hI.f]
        have hfin := hI.take (b := b) ht hd2 (by omega)
        gi_wp2
        refine wp_round_held (S := fun w' => w'.cell? ⟨b, 4, none⟩ = some (.int .i64 (id ((pthU bits v bits).take d)))) hfol (by kernel_rfl) (fun ⟨_, _, h⟩ => h) y4 (fun hHeld => ?_)
        refine wpAnyH_take (i := 0) (v := ?_) rfl (by kernel_rfl) (by kernel_rfl) (by kernel_rfl) (fun _ _ _ h => h) (Or.inl ⟨by rfl, ?_⟩) hHeld ?_
        rotate_left
        · (intro w1 hSw; (try dsimp only at hSw); (try obtain ⟨sA, sB⟩ := hSw); go_simp; all_goals with_reducible rfl)
        (try go_frame)
        refine wpAnyH_take (i := 1) (v := ?_) rfl (by kernel_rfl) (by kernel_rfl) (by kernel_rfl) (fun _ _ _ h => h) (Or.inl ⟨by rfl, ?_⟩) hHeld ?_
        rotate_left
        · (intro w1 hSw; (try dsimp only at hSw); (try obtain ⟨sA, sB⟩ := hSw); go_simp; all_goals with_reducible rfl)
        (try go_frame)
        refine wpAnyH_take (i := 2) (v := ?_) rfl (by kernel_rfl) (by kernel_rfl) (by kernel_rfl) (fun _ _ _ h => h) (Or.inl ⟨by rfl, ?_⟩) hHeld ?_
        rotate_left
        · (intro w1 hSw; (try dsimp only at hSw); (try obtain ⟨sA, sB⟩ := hSw); go_simp; all_goals with_reducible rfl)
        (try go_frame)
        refine wpAnyH_take (i := 3) (v := ?_) rfl (by kernel_rfl) (by kernel_rfl) (by kernel_rfl) (fun _ _ _ h => h) (Or.inl ⟨by rfl, ?_⟩) hHeld ?_
        rotate_left
        · (intro w1 hSw; (try dsimp only at hSw); (try obtain ⟨sA, sB⟩ := hSw); go_simp; all_goals with_reducible rfl)
        (try go_frame)
        refine wpAnyH_take (i := 4) (v := ?_) rfl (by kernel_rfl) (by kernel_rfl) (by kernel_rfl) (fun _ _ _ h => h) (Or.inl ⟨by rfl, ?_⟩) hHeld ?_
        rotate_left
        · (intro w1 hSw; (try dsimp only at hSw); (try obtain ⟨sA, sB⟩ := hSw); go_simp; all_goals with_reducible rfl)
        (try go_frame)
        refine wpAnyH_ready (rs := [5]) (by kernel_rfl) (by simp) ?_
        refine AllReadyH.cons rfl (fun K hK => ?_) AllReadyH.nil
        go_simp
        go_wp2_with fail
        refine hK.out _ _ ?_ (fun hHeld2 => ?_)
        · exact (World.cell?_setCell_far _ _ _ _ (by show w1.heap.size ≠ b; omega)).trans y4
        clear hK K hHeld
        have hHeld := hHeld2
        clear hHeld2
        (try go_frame)
        refine wpAnyH_ready (rs := [6]) (by kernel_rfl) (by simp) ?_
        refine AllReadyH.cons rfl (fun K hK => ?_) AllReadyH.nil
        go_simp
        go_wp2_with fail
        refine hK.out _ _ ?_ (fun hHeld2 => ?_)
        · exact (World.cell?_setCell_far _ _ _ _ (by show w1.heap.size + 1 ≠ b; omega)).trans ((World.cell?_setCell_far _ _ _ _ (by show w1.heap.size ≠ b; omega)).trans y4)
        clear hK K hHeld
        have hHeld := hHeld2
        clear hHeld2
        (try go_frame)
        refine wpAnyH_ready (rs := [7]) (by kernel_rfl) (by simp) ?_
        refine AllReadyH.cons rfl (fun K hK => ?_) AllReadyH.nil
        go_simp
        go_wp2_with fail
        refine hK.out _ _ ?_ (fun hHeld2 => ?_)
        · exact (World.cell?_setCell_far _ _ _ _ (by show w1.heap.size + 1 + 1 ≠ b; omega)).trans ((World.cell?_setCell_far _ _ _ _ (by show w1.heap.size + 1 ≠ b; omega)).trans ((World.cell?_setCell_far _ _ _ _ (by show w1.heap.size ≠ b; omega)).trans y4))
        clear hK K hHeld
        have hHeld := hHeld2
        clear hHeld2
        (try go_frame)
        refine wpAnyH_done (by kernel_rfl) ?_ _
        gi_wp2
        exact ⟨fun j h1 h2 => by show (((W'.setCell _ _).setCell _ _).setCell _ _).heap[j]? = _; rw [setHU (by omega), setHU (by omega), setHU (by omega)], ((((KBU.refl _ _).set (.inl ⟨by omega, by omega⟩) _ _).set (.inl ⟨by omega, by omega⟩) _ _).set (.inl ⟨by omega, by omega⟩) _ _).drew, hfin⟩
    case done =>
      rintro D2 ys W' hD rfl hI hK
      have k0 := blk_cell hI.l 0 _ rfl
      have k1 := blk_cell hI.i 0 _ rfl
      have k2 := blk_cell hI.f 0 _ rfl
      have hfold : accU th id (pthU bits v bits) (wlU A c [] (pthU bits v bits)) = res := (fold_lgU hW hT.has id (pthU bits v bits) (pthU bits v bits) [] (0, 0, false) rfl).trans HR.out.symm
      rw [hfold] at k0 k1 k2
      gi_wp2
      refine wpIn_wide.2 ?_
      go_quiet (fail)
      all_goals gi_wp2
      all_goals refine ⟨by simp, .inl ⟨_, _, rfl, run_takeDeferred (w := W'.drewN nq) hK, ?_⟩⟩
      all_goals refine ⟨.tuple #[.int .i64 (res.1 : Int), .int .i64 res.2.1, .bool res.2.2], ?_, rfl, ?_⟩
      all_goals first
        | (simp [results, Try.results34, go_sem]; done)
        | exact (hI.below.trans (below_dnU _ _ _)).trans (below_putU _ D2 _ (by have := hI.below.size; exact this) (by omega))
    case stop =>
      rintro D2 cd pre W' _ _ h _
      exact h.elim
end Go.Proofs.Ytmlocfojmncghaa
