/- Contracts, joined: UFind, UMore. -/
import Derived.Test.YtmlocfojmncghaaUWay
namespace Go.Proofs.Ytmlocfojmncghaa
section
open Go.RowKit Go.Shelf
attribute [local go_sem] Oper.semAt_some
/-- the counts and the marks of a trie that is whole -/
structure CWf (c : Pth → Nat) (th : Pth → Bool) : Prop where
  mono : ∀ p x, c (p ++ [x]) ≤ c p
  thc : ∀ p, th p = true → 0 < c p
theorem CWf.take {c : Pth → Nat} {th : Pth → Bool} (h : CWf c th) (p : Pth) : ∀ (q : Pth), c (p ++ q) ≤ c p := by
  intro q
  induction q generalizing p with
  | nil => simp
  | cons x q ih =>
    have := ih (p ++ [x])
    rw [List.append_assoc, List.singleton_append] at this
    exact Nat.le_trans this (h.mono p x)
theorem wlU_mem {A : Pth → Option Nat} {c : Pth → Nat} {d b : Nat} : ∀ (q p : Pth), (d, b) ∈ wlU A c p q → ∃ k, k ≤ q.length ∧ d = p.length + k ∧ lvU A c (p ++ q.take k) = some b
  | [], p, h => by
    cases hl : lvU A c p with
    | none => rw [wlU_none hl] at h; cases h
    | some b' =>
      rw [wlU_nil hl] at h
      simp only [List.mem_singleton, Prod.mk.injEq] at h
      exact ⟨0, by simp, by simpa using h.1, by simp [hl, h.2]⟩
  | x :: q, p, h => by
    cases hl : lvU A c p with
    | none => rw [wlU_none hl] at h; cases h
    | some b' =>
      rw [wlU_cons hl] at h
      rcases List.mem_cons.1 h with h | h
      · simp only [Prod.mk.injEq] at h
        exact ⟨0, by simp, by simpa using h.1, by simp [hl, h.2]⟩
      · obtain ⟨k, h1, h2, h3⟩ := wlU_mem q _ h
        refine ⟨k + 1, by simpa using h1, by rw [h2]; simp; omega, ?_⟩
        rw [List.take_succ_cons]
        simpa using h3
theorem wlU_end {A : Pth → Option Nat} {c : Pth → Nat} {b : Nat} : ∀ (q p : Pth), (∀ k, k ≤ q.length → (lvU A c (p ++ q.take k)).isSome = true) → lvU A c (p ++ q) = some b → (p.length + q.length, b) ∈ wlU A c p q
  | [], p, _, h => by
    rw [List.append_nil] at h
    rw [wlU_nil h]
    simp
  | x :: q, p, h, he => by
    have h0 := h 0 (by simp)
    obtain ⟨b', hb'⟩ := Option.isSome_iff_exists.1 h0
    rw [List.take_zero, List.append_nil] at hb'
    rw [wlU_cons hb', List.mem_cons]
    right
    have := wlU_end (b := b) q (p ++ [x]) (fun k hk => by
      have := h (k + 1) (by simpa using hk)
      rw [List.take_succ_cons] at this
      simpa using this) (by simpa using he)
    rw [show p.length + (x :: q).length = (p ++ [x]).length + q.length by simp; omega]
    exact this
theorem TrieM.lv {w : World} {X bits N : Nat} {A : Pth → Option Nat} {c : Pth → Nat} {th : Pth → Bool} {id : Pth → Int} (h : TrieM w X bits A c th id N) {p : Pth} (hc : 0 < c p) : ∃ b, lvU A c p = some b ∧ A p = some b := by
  obtain ⟨b, hb⟩ := h.has p hc
  exact ⟨b, by unfold lvU; rw [if_pos hc]; exact hb, hb⟩
/-- where the node of a prefix is, if the prefix is there -/
def fndU (A : Pth → Option Nat) (th : Pth → Bool) (bits v : Nat) (n : Int) : Option Nat := if preU bits v n ∧ th (pthU bits v n.toNat) = true then A (pthU bits v n.toNat) else none
theorem cell_putU {W : World} {k : Nat} {cs : Array Value} {T : TypeId} (h : W.heap[k]? = some (.cells cs T (0, 0))) {D : Nat} {o : Obj} (hne : k ≠ D) : (W.putObj D o).heap[k]? = some (.cells cs T (0, 0)) := (World.putObj_heap_other hne).trans h
set_option maxRecDepth 100000 in
set_option maxHeartbeats 4000000 in
theorem ut_findNo {w : World} {X bits N : Nat} {A : Pth → Option Nat} {c : Pth → Nat} {th : Pth → Bool} {id : Pth → Int} (hT : TrieM w X bits A c th id N) (v : Nat) (hv : v < 2 ^ 128) (n : Int) (hp : ¬ preU bits v n) :
    Calls Try.prog 63 #[.pointer (some ⟨X, 0, none⟩), .agg #[.int .u64 (hi v), .int .u64 (lo v)], .int .i64 n] w (RetX (.pointer none) w) := by
  refine (callsIn_wide (n := 7)).1 ?_
  refine callsIn_of_wp_marks Try.func63 rfl trivial ?_ rfl
  simp only [Try.ntmps63, List.size_toArray, List.length_cons, List.length_nil, Nat.reduceAdd, Nat.reduceSub, Array.replicate_succ, Array.replicate_zero, List.push_toArray, List.append_toArray, List.nil_append, List.cons_append]
  obtain ⟨W0, hW0⟩ : ∃ W0, W0 = (((w.alloc (.cells #[.int .u64 (hi v), .int .u64 (lo v)] 29)).alloc (.cells #[.int .i64 n] 3)).alloc (.cells #[.pointer none] 126)) := ⟨_, rfl⟩
  have hB0 : Below w.heap.size w W0 := by rw [hW0]; exact (((Below.refl _ w).alloc (Nat.le_refl _) _).alloc (by simp) _).alloc (by simp; omega) _
  have hz0 : W0.heap.size = w.heap.size + 3 := by rw [hW0]; simp
  have a0 : W0.heap[w.heap.size]? = some (.cells #[.int .u64 (hi v), .int .u64 (lo v)] 29 (0, 0)) := by
    rw [hW0]; exact (Below.heap_alloc _ _ _ (by simp; omega)).trans ((Below.heap_alloc _ _ _ (by simp)).trans (heap_alloc_new _ _))
  have a1 : W0.heap[w.heap.size + 1]? = some (.cells #[.int .i64 n] 3 (0, 0)) := by
    have h := heap_alloc_new (w.alloc (.cells #[.int .u64 (hi v), .int .u64 (lo v)] 29)) (.cells #[.int .i64 n] 3)
    rw [World.size_alloc] at h
    rw [hW0]; exact (Below.heap_alloc _ _ _ (by simp)).trans h
  have a2 : W0.heap[w.heap.size + 1 + 1]? = some (.cells #[.pointer none] 126 (0, 0)) := by
    have h := heap_alloc_new ((w.alloc (.cells #[.int .u64 (hi v), .int .u64 (lo v)] 29)).alloc (.cells #[.int .i64 n] 3)) (.cells #[.pointer none] 126)
    rw [World.size_alloc, World.size_alloc] at h
    rw [hW0]; exact h
  have HW0 := Lib.hid hW0
  have hc0 := blk_cell a0 0 _ rfl
  have hc1 := blk_cell a0 1 _ rfl
  have hc2 := blk_cell a1 0 _ rfl
  rw [hW0] at hc0 hc1 hc2
  clear hW0
  have hcall := ut_isPrefix (hT.below hB0).box v hv n
  rw [decide_eq_false hp] at hcall
  gi_wp2_with (refine ⟨trivial, ?_⟩; gi_at_call 62; rw [← HW0.out]; refine (callsIn_wide.2 hcall).mono ?_; rintro e w1 ⟨rfl, hb1⟩; have q2 := (hb1.block _ (heap_ltU a2)).trans a2; have y2 := blk_cell q2 0 _ rfl; have z2 : w1.frozen? ⟨w.heap.size + 1 + 1, 0, none⟩ = false := by simp [World.frozen?, q2])
  have hq3 := blk_set q2 0 (.pointer none)
  have y3 := blk_cell hq3 0 (.pointer none) rfl
  refine ⟨.pointer none, ?_, rfl, (hB0.trans (hb1.mono hB0.size)).setCell (p := ⟨w.heap.size + 1 + 1, 0, none⟩) (by show w.heap.size ≤ w.heap.size + 1 + 1; omega) _⟩
  simp [results, Try.results63, go_sem, y3]
def HitU (A : Pth → Option Nat) (th : Pth → Bool) (q : Pth) (r : Nat) (W : World) : Prop := ∃ b, A q = some b ∧ th q = true ∧ W.heap[r]? = some (.cells #[.pointer (some ⟨b, 0, none⟩)] 126 (0, 0))
def MissU (th : Pth → Bool) (q : Pth) (m : Nat) (pre : List (Nat × Nat)) : Prop := ∀ y ∈ pre, y.1 = m → th q = false
set_option maxRecDepth 100000 in
set_option maxHeartbeats 4000000 in
theorem ut_findIn {w : World} {X bits N : Nat} {A : Pth → Option Nat} {c : Pth → Nat} {th : Pth → Bool} {id : Pth → Int} (hT : TrieM w X bits A c th id N) (hW : CWf c th) (hb8 : bits ≤ 128) (v : Nat) (hv : v < 2 ^ 128) (m : Nat) (hp : preU bits v m) :
    Calls Try.prog 63 #[.pointer (some ⟨X, 0, none⟩), .agg #[.int .u64 (hi v), .int .u64 (lo v)], .int .i64 m] w (RetX (ptU (if th (pthU bits v m) = true then A (pthU bits v m) else none)) w) := by
  refine (callsIn_wide (n := 7)).1 ?_
  refine callsIn_of_wp_marks Try.func63 rfl trivial ?_ rfl
  simp only [Try.ntmps63, List.size_toArray, List.length_cons, List.length_nil, Nat.reduceAdd, Nat.reduceSub, Array.replicate_succ, Array.replicate_zero, List.push_toArray, List.append_toArray, List.nil_append, List.cons_append]
  obtain ⟨W0, hW0⟩ : ∃ W0, W0 = (((w.alloc (.cells #[.int .u64 (hi v), .int .u64 (lo v)] 29)).alloc (.cells #[.int .i64 (m : Int)] 3)).alloc (.cells #[.pointer none] 126)) := ⟨_, rfl⟩
  have hB0 : Below w.heap.size w W0 := by rw [hW0]; exact (((Below.refl _ w).alloc (Nat.le_refl _) _).alloc (by simp) _).alloc (by simp; omega) _
  have hz0 : W0.heap.size = w.heap.size + 3 := by rw [hW0]; simp
  have a0 : W0.heap[w.heap.size]? = some (.cells #[.int .u64 (hi v), .int .u64 (lo v)] 29 (0, 0)) := by
    rw [hW0]; exact (Below.heap_alloc _ _ _ (by simp; omega)).trans ((Below.heap_alloc _ _ _ (by simp)).trans (heap_alloc_new _ _))
  have a1 : W0.heap[w.heap.size + 1]? = some (.cells #[.int .i64 (m : Int)] 3 (0, 0)) := by
    have h := heap_alloc_new (w.alloc (.cells #[.int .u64 (hi v), .int .u64 (lo v)] 29)) (.cells #[.int .i64 (m : Int)] 3)
    rw [World.size_alloc] at h
    rw [hW0]; exact (Below.heap_alloc _ _ _ (by simp)).trans h
  have a2 : W0.heap[w.heap.size + 1 + 1]? = some (.cells #[.pointer none] 126 (0, 0)) := by
    have h := heap_alloc_new ((w.alloc (.cells #[.int .u64 (hi v), .int .u64 (lo v)] 29)).alloc (.cells #[.int .i64 (m : Int)] 3)) (.cells #[.pointer none] 126)
    rw [World.size_alloc, World.size_alloc] at h
    rw [hW0]; exact h
  have HW0 := Lib.hid hW0
  have hc0 := blk_cell a0 0 _ rfl
  have hc1 := blk_cell a0 1 _ rfl
  have hc2 := blk_cell a1 0 _ rfl
  rw [hW0] at hc0 hc1 hc2
  clear hW0
  have hcall := ut_isPrefix (hT.below hB0).box v hv m
  rw [decide_eq_true hp] at hcall
  obtain ⟨res, hres⟩ : ∃ r, r = ptU (if th (pthU bits v m) = true then A (pthU bits v m) else none) := ⟨_, rfl⟩
  rw [← hres]
  have HR := Lib.hid hres
  clear hres
  have hmb : m ≤ bits := by have := hp.2.1; omega
  gi_wp2_with (refine ⟨trivial, ?_⟩; first
    | (gi_at_call 62; rw [← HW0.out]; refine (callsIn_wide.2 hcall).mono ?_; rintro e w1 ⟨rfl, hb1⟩; have q0 := (hb1.block _ (heap_ltU a0)).trans a0; have q1 := (hb1.block _ (heap_ltU a1)).trans a1; have y0 := blk_cell q0 0 _ rfl; have y1 := blk_cell q0 1 _ rfl; have y2 := blk_cell q1 0 _ rfl; clear hcall)
    | (gi_at_call 73; refine (callsIn_wide.2 (ut_way X v m w1)).mono ?_; rintro e w2 ⟨rfl, hb2, hwb⟩))
  unfold wvU
  have hb01 : Below w.heap.size w w1 := hB0.trans (hb1.mono hB0.size)
  have hb02 : Below w.heap.size w w2 := hb01.trans (hb2.mono hb01.size)
  have hs1 := hb1.size
  have hs2 := hwb.size
  have r1 := (hb2.block _ (heap_ltU q1)).trans q1
  have r2 : w2.heap[w.heap.size + 1 + 1]? = some (.cells #[.pointer none] 126 (0, 0)) := (hb2.block _ (by omega)).trans ((hb1.block _ (heap_ltU a2)).trans a2)
  have hT2 := hT.below hb02
  have hXl := heap_ltU hT.box
  have hq0 : (pthU bits v m).length = m := pthU_len _ _ _
  refine wp_rangeB (gf := 94) (lb := #[.pointer (some ⟨w1.heap.size, 0, none⟩), .pointer (some ⟨w1.heap.size + 1, 0, none⟩), .pointer (some ⟨w1.heap.size + 2, 0, none⟩)]) rfl (enters_of Try.func94 (by kernel_rfl) rfl)
    (ut_way1_B (7 - 1) (by decide) w1.heap.size bits v m hv hmb hb8 (fun j => j = w.heap.size + 1 + 1 ∨ j = w2.heap.size + 1) w2 hT2 (by rintro (h | h) <;> omega) (fun p b hb => by have := hT.ltA hb; rintro (h | h) <;> omega) (by rintro j (h | h) <;> omega) hwb.bt hwb.bv hwb.bn) KBU.trans
    (fun W' o' => (KBU.refl _ _).put (.inr rfl) o') (Below.refl _ _) (fun _ => rfl)
    (fun pre W' => (W'.heap[w.heap.size + 1 + 1]? = some (.cells #[.pointer none] 126 (0, 0)) ∧ W'.heap[w.heap.size + 1]? = some (.cells #[.int .i64 m] 3 (0, 0))) ∧ Below w.heap.size w W' ∧ MissU th (pthU bits v m) m pre)
    (fun cd _ W' => cd = .ret ∧ HitU A th (pthU bits v m) (w.heap.size + 1 + 1) W' ∧ Below w.heap.size w W')
    (fun pre X1 X2 h hb => ⟨⟨(hb.block _ (by omega)).trans h.1.1, (hb.block _ (by omega)).trans h.1.2⟩, h.2.1.trans (hb.mono (by omega)), h.2.2⟩)
    (fun cd pre X1 X2 h hb => by
      obtain ⟨h1, ⟨b, h2, h3, h4⟩, h5⟩ := h
      exact ⟨h1, ⟨b, h2, h3, (hb.block _ (by omega)).trans h4⟩, h5.trans (hb.mono (by omega))⟩)
    ⟨⟨r2, r1⟩, hb02, fun y hy => by cases hy⟩
    (fun x => { tmps := #[.pointer (some ⟨X, 0, none⟩), .agg #[.int .u64 (hi v), .int .u64 (lo v)], .int .i64 m, undef, .pointer (some ⟨w.heap.size, 0, none⟩), .pointer (some ⟨w.heap.size + 1, 0, none⟩), .pointer (some ⟨w.heap.size + 1 + 1, 0, none⟩), .int .i64 (x.1 : Int), .pointer (some ⟨x.2, 0, none⟩), .pointer (some ⟨X, 0, none⟩), .agg #[.int .u64 (hi v), .int .u64 (lo v)], .int .i64 m, .bool true, .bool false, .pointer (some ⟨X, 0, none⟩), .agg #[.int .u64 (hi v), .int .u64 (lo v)], .int .i64 m, .func (.func 94) #[] #[.pointer (some ⟨w1.heap.size, 0, none⟩), .pointer (some ⟨w1.heap.size + 1, 0, none⟩), .pointer (some ⟨w1.heap.size + 2, 0, none⟩)], .int .i64 (x.1 : Int), .pointer (some ⟨x.2, 0, none⟩), undef, undef, undef, undef, undef, undef, undef, undef, undef, undef], defers := [] })
    ?assign ?body ?done ?stop
  case assign =>
    intro l2 x W' K hK
    unfold encWU
    gi_wp2
    exact hK
  case body =>
    rintro l2 pre ⟨d, b⟩ W' hGd hz' ⟨⟨g1, g2⟩, hBw, hno⟩
    have y3 := blk_cell g2 0 _ rfl
    obtain ⟨k, hk1, hk2, hk3⟩ := wlU_mem _ _ (hGd.subset (List.mem_append.2 (.inr (List.mem_singleton.2 rfl))))
    rw [List.length_nil, Nat.zero_add] at hk2
    rw [List.nil_append] at hk3
    subst hk2
    by_cases hd : d = m
    · subst hd
      rw [List.take_of_length_le (by omega)] at hk3
      have hA : A (pthU bits v d) = some b := by unfold lvU at hk3; split at hk3; exact hk3; cases hk3
      have hn := (hT.below hBw).node _ _ hA
      have y4 : W'.cell? ⟨b, 3, none⟩ = some (.bool (th (pthU bits v d))) := blk_cell hn 3 _ rfl
      have z2 : W'.frozen? ⟨w.heap.size + 1 + 1, 0, none⟩ = false := by simp [World.frozen?, g1]
      have y5 := blk_cell g1 0 _ rfl
      cases ht : th (pthU bits v d) with
      | true =>
        rw [ht] at y4
        gi_wp2
        refine ⟨fun j h1 h2 => setHU (by omega), (KBU.refl _ _).set (.inl rfl) _ _, rfl, ⟨b, hA, ht, ?_⟩, hBw.setCell (p := ⟨w.heap.size + 1 + 1, 0, none⟩) (by show w.heap.size ≤ w.heap.size + 1 + 1; omega) _⟩
        rw [blk_set g1]
        rfl
      | false =>
        rw [ht] at y4
        gi_wp2
        exact ⟨fun _ _ _ => rfl, KBU.refl _ _, ⟨g1, g2⟩, hBw, fun _ _ _ => ht⟩
    · have hne : ¬ (d : Int) = (m : Int) := by omega
      gi_wp2
      refine ⟨fun _ _ _ => rfl, KBU.refl _ _, ⟨g1, g2⟩, hBw, fun y hy => ?_⟩
      rcases List.mem_append.1 hy with hy | hy
      · exact hno y hy
      · rw [List.mem_singleton] at hy
        subst hy
        exact fun e => absurd e hd
  case done =>
    rintro D2 ys W' hD rfl ⟨⟨g1, g2⟩, hBw, hno⟩ hK
    have hth : th (pthU bits v m) = false := by
      cases ht : th (pthU bits v m) with
      | false => rfl
      | true =>
        exfalso
        have hc := hW.thc _ ht
        obtain ⟨b, hb, _⟩ := hT.lv hc
        have hin := wlU_end (A := A) (c := c) (b := b) (pthU bits v m) [] (fun k hk => by
          have h1 : c (pthU bits v m) ≤ c ((pthU bits v m).take k) := by
            have := hW.take ((pthU bits v m).take k) ((pthU bits v m).drop k)
            rwa [List.take_append_drop] at this
          obtain ⟨b', hb', _⟩ := hT.lv (Nat.lt_of_lt_of_le hc h1)
          rw [List.nil_append, hb']; rfl) (by rw [List.nil_append]; exact hb)
        have := hno _ hin (by simp [hq0])
        rw [ht] at this
        cases this
    have hr := HR.out
    rw [if_neg (by rw [hth]; simp)] at hr
    have z2 : W'.frozen? ⟨w.heap.size + 1 + 1, 0, none⟩ = false := by simp [World.frozen?, g1]
    have y5 := blk_cell g1 0 _ rfl
    gi_wp2
    have hq3 := blk_set g1 0 (.pointer none)
    have hK3 : (W'.setCell ⟨w.heap.size + 1 + 1, 0, none⟩ (.pointer none)).heap[D2]? = some (.deferred (some [])) := (setHU (by omega)).trans hK
    have hBw3 : Below w.heap.size w (W'.setCell ⟨w.heap.size + 1 + 1, 0, none⟩ (.pointer none)) := hBw.setCell (p := ⟨w.heap.size + 1 + 1, 0, none⟩) (by show w.heap.size ≤ w.heap.size + 1 + 1; omega) _
    refine ⟨by simp, .inl ⟨_, _, rfl, run_takeDeferred hK3, ?_⟩⟩
    have y6 := blk_cell (cell_putU hq3 (D := D2) (o := .deferred none) (by omega)) 0 (.pointer none) rfl
    refine ⟨.pointer none, ?_, by rw [hr]; rfl, hBw3.trans (below_putU _ D2 _ hBw3.size (by omega))⟩
    simp [results, Try.results63, go_sem, y6]
  case stop =>
    rintro D2 cd pre W' hD _ ⟨rfl, ⟨b, hA, ht, hq3⟩, hBw⟩ hK
    have hr := HR.out
    rw [if_pos ht, hA] at hr
    gi_wp2
    refine ⟨by simp, .inl ⟨_, _, rfl, run_takeDeferred hK, ?_⟩⟩
    have y6 := blk_cell (cell_putU hq3 (D := D2) (o := .deferred none) (by omega)) 0 (.pointer (some ⟨b, 0, none⟩)) rfl
    refine ⟨.pointer (some ⟨b, 0, none⟩), ?_, by rw [hr]; rfl, hBw.trans (below_putU _ D2 _ hBw.size (by omega))⟩
    simp [results, Try.results63, go_sem, y6]
theorem ut_find {w : World} {X bits N : Nat} {A : Pth → Option Nat} {c : Pth → Nat} {th : Pth → Bool} {id : Pth → Int} (hT : TrieM w X bits A c th id N) (hW : CWf c th) (hb8 : bits ≤ 128) (v : Nat) (hv : v < 2 ^ 128) (n : Int) :
    Calls Try.prog 63 #[.pointer (some ⟨X, 0, none⟩), .agg #[.int .u64 (hi v), .int .u64 (lo v)], .int .i64 n] w (RetX (ptU (fndU A th bits v n)) w) := by
  by_cases hp : preU bits v n
  · obtain ⟨m, rfl⟩ : ∃ m : Nat, n = m := ⟨n.toNat, by have := hp.1; omega⟩
    have e : fndU A th bits v m = if th (pthU bits v m) = true then A (pthU bits v m) else none := by
      unfold fndU
      rw [Int.toNat_natCast]
      by_cases ht : th (pthU bits v m) = true
      · rw [if_pos ⟨hp, ht⟩, if_pos ht]
      · rw [if_neg (fun h => ht h.2), if_neg ht]
    rw [e]
    exact ut_findIn hT hW hb8 v hv m hp
  · have e : fndU A th bits v n = none := if_neg fun h => hp h.1
    rw [e]
    exact ut_findNo hT v hv n hp
end
section
open Go.RowKit
/-- nothing but what lies in F has changed -/
structure FrU (F : Nat → Prop) (w w' : World) : Prop where
  os : w'.os = w.os
  tape : w'.tape = w.tape
  output : w'.output = w.output
  size : w.heap.size ≤ w'.heap.size
  block : ∀ j, j < w.heap.size → ¬ F j → w'.heap[j]? = w.heap[j]?
theorem FrU.refl (F : Nat → Prop) (w : World) : FrU F w w := ⟨rfl, rfl, rfl, Nat.le_refl _, fun _ _ _ => rfl⟩
theorem FrU.trans {F F' : Nat → Prop} {a b c : World} (h : FrU F a b) (k : FrU F' b c) (hf : ∀ j, F' j → F j ∨ a.heap.size ≤ j) : FrU F a c :=
  ⟨k.os.trans h.os, k.tape.trans h.tape, k.output.trans h.output, Nat.le_trans h.size k.size, fun j hj hn => (k.block j (Nat.lt_of_lt_of_le hj h.size) (fun e => by rcases hf j e with e | e; exact hn e; omega)).trans (h.block j hj hn)⟩
theorem FrU.of_below {F : Nat → Prop} {w w' : World} (h : Below w.heap.size w w') : FrU F w w' := ⟨h.os, h.tape, h.output, h.size, fun j hj _ => h.block j hj⟩
theorem FrU.below {F : Nat → Prop} {B : Nat} {w w' : World} (h : FrU F w w') (hB : B ≤ w.heap.size) (hF : ∀ j, F j → B ≤ j) : Below B w w' :=
  ⟨h.os, h.tape, h.output, h.size, fun j hj => h.block j (by omega) (fun e => by have := hF j e; omega)⟩
theorem FrU.set {F : Nat → Prop} {w w' : World} (h : FrU F w w') {k : Nat} (hk : F k ∨ w.heap.size ≤ k) (j : Nat) (v : Value) : FrU F w (w'.setCell ⟨k, j, none⟩ v) :=
  ⟨h.os, h.tape, h.output, by simp; exact h.size, fun i hi hn => (setHU (fun e => by subst e; rcases hk with hk | hk; exact hn hk; omega)).trans (h.block i hi hn)⟩
theorem FrU.mono {F F' : Nat → Prop} {w w' : World} (h : FrU F w w') (hf : ∀ j, F j → F' j) : FrU F' w w' := ⟨h.os, h.tape, h.output, h.size, fun j hj hn => h.block j hj fun e => hn (hf j e)⟩
theorem FrU.drew {F : Nat → Prop} {w w' : World} (h : FrU F w w') : FrU F w w'.drew := ⟨h.os, h.tape, h.output, h.size, h.block⟩
theorem FrU.putU {F : Nat → Prop} {w w' : World} (h : FrU F w w') (D : Nat) (o : Obj) (hD : w.heap.size ≤ D) : FrU F w (w'.putObj D o) :=
  ⟨h.os, h.tape, h.output, by simp; exact h.size, fun j hj hn => (World.putObj_heap_other (by omega)).trans (h.block j hj hn)⟩
/-- where everything that could change is cells, whatever is no cells stays -/
theorem FrU.others {F : Nat → Prop} {w w' : World} (h : FrU F w w') (hF : ∀ j o, F j → w.heap[j]? = some o → o.isCells = true) : KeepsOthers w w' :=
  ⟨h.size, fun k o hk ho => (h.block k (heap_ltU hk) (fun e => by have := hF k o e hk; rw [ho] at this; cases this)).trans hk⟩
theorem TrieM.notA {w : World} {X bits N : Nat} {A : Pth → Option Nat} {c : Pth → Nat} {th : Pth → Bool} {id : Pth → Int} (h : TrieM w X bits A c th id N) {j : Nat} {cs : Array Value} {T : TypeId} {fr : Nat × Nat} (hj : w.heap[j]? = some (.cells cs T fr)) (hs : cs.size ≤ 2) : j ≠ X ∧ ∀ p, A p ≠ some j := by
  constructor
  · rintro rfl
    rw [h.box] at hj
    injection hj with hj
    injection hj with hj
    subst hj
    simp at hs
  · intro p hp
    rw [h.node p j hp] at hj
    injection hj with hj
    injection hj with hj
    subst hj
    simp [ndU] at hs
/-- the blocks of a trie -/
def FtU (X : Nat) (A : Pth → Option Nat) (j : Nat) : Prop := j = X ∨ ∃ p, A p = some j
theorem TrieM.cells {w : World} {X bits N : Nat} {A : Pth → Option Nat} {c : Pth → Nat} {th : Pth → Bool} {id : Pth → Int} (h : TrieM w X bits A c th id N) (j : Nat) (o : Obj) (hj : FtU X A j) (ho : w.heap[j]? = some o) : o.isCells = true := by
  rcases hj with rfl | ⟨p, hp⟩
  · rw [h.box] at ho; injection ho with ho; subst ho; rfl
  · rw [h.node p j hp] at ho; injection ho with ho; subst ho; rfl
/-- what oneMore leaves, ahead of the store of its answer into the block P (cell i) -/
structure MoreU (w w' : World) (X bits : Nat) (A : Pth → Option Nat) (c : Pth → Nat) (th : Pth → Bool) (id : Pth → Int) (N P i : Nat) (q : Pth) (b : Nat) : Prop where
  ex : ∃ A' id' N', TrieM (w'.setCell ⟨P, i, none⟩ (.pointer (some ⟨b, 0, none⟩))) X bits A' (updU c q (c q + 1)) th id' N' ∧ A' q = some b ∧ N' ≤ N + 1 ∧ (∀ p b', A' p = some b' → A p = some b' ∨ w.heap.size ≤ b') ∧ (∀ p, th p = true → id' p = id p) ∧ (∀ p, p ≠ q → A' p = A p)
  fr : FrU (FtU X A) w w'
  at_ : ∃ cs T v, w'.heap[P]? = some (.cells cs T (0, 0)) ∧ cs[i]? = some v
theorem newU_fr (w : World) (X N : Nat) (A : Pth → Option Nat) : FrU (FtU X A) w (newU w X N) :=
  ⟨rfl, rfl, rfl, by rw [newU_size]; omega, fun j hj hn => newU_old hj (fun e => hn (.inl e))⟩
theorem ix_ndU (A : Pth → Option Nat) (c : Pth → Nat) (th : Pth → Bool) (id : Pth → Int) (p : Pth) (x : Bool) : ∃ v, (ndU A c th id p)[ixU x]? = some v := by
  cases x
  · exact ⟨_, rfl⟩
  · exact ⟨_, rfl⟩
theorem ut_moreAt {w : World} {X bits N : Nat} {A : Pth → Option Nat} {c : Pth → Nat} {th : Pth → Bool} {id : Pth → Int} (h : TrieM w X bits A c th id N) (p : Pth) (x : Bool) {bp : Nat} (hp : A p = some bp) (hth : c (p ++ [x]) = 0 → th (p ++ [x]) = false) (hk : c (p ++ [x]) = 0 → ∀ y, c (p ++ [x] ++ [y]) = 0) (hcb : c (p ++ [x]) < 1000000000) (hN : N < 1000000000) :
    Calls Try.prog 64 #[.pointer (some ⟨X, 0, none⟩), ptU (lvU A c (p ++ [x]))] w fun e w' => ∃ b, e = .returned (.pointer (some ⟨b, 0, none⟩)) ∧ MoreU w w' X bits A c th id N bp (ixU x) (p ++ [x]) b := by
  obtain ⟨v, hv⟩ := ix_ndU A c th id p x
  by_cases hc : 0 < c (p ++ [x])
  · obtain ⟨b, hl, hb⟩ := h.lv hc
    rw [hl]
    refine (ut_more (h.node _ _ hb) rfl hcb).mono ?_
    rintro e w' ⟨rfl, rfl⟩
    have hne : bp ≠ b := fun e => snoc_neU p x (h.inj _ _ b hb (e ▸ hp))
    refine ⟨b, rfl, ⟨A, id, N, h.bump p x hp hb hc _ (by omega), hb, by omega, fun _ _ h => .inl h, fun _ _ => rfl, fun _ _ => rfl⟩, (FrU.refl _ _).set (.inl (.inr ⟨_, hb⟩)) _ _, _, _, v, by rw [setHU hne]; exact h.node p bp hp, hv⟩
  · have hl : lvU A c (p ++ [x]) = none := if_neg hc
    have h0 : c (p ++ [x]) = 0 := by omega
    rw [hl]
    refine (ut_moreNew h.box hN).mono ?_
    rintro e w' ⟨rfl, rfl⟩
    refine ⟨_, rfl, ⟨_, _, _, by rw [h0]; exact h.grow p x hp h0 (hth h0) (hk h0), updU_same _ _ _, Nat.le_refl _, fun r b' hr => ?_, fun r hr => ?_, fun r hr => updU_other _ _ hr⟩, newU_fr _ _ _ _, _, _, v, (newU_old (h.ltA hp) (h.ne _ _ hp)).trans (h.node p bp hp), hv⟩
    · by_cases e : r = p ++ [x]
      · subst e
        rw [updU_same] at hr; injection hr with hr
        exact .inr (by omega)
      · rw [updU_other _ _ e] at hr; exact .inl hr
    · by_cases e : r = p ++ [x]
      · subst e
        rw [hth h0] at hr; cases hr
      · rw [updU_other _ _ e]
theorem ut_moreRoot {w : World} {X bits N : Nat} {A : Pth → Option Nat} {c : Pth → Nat} {th : Pth → Bool} {id : Pth → Int} (h : TrieM w X bits A c th id N) (hth : c [] = 0 → th [] = false) (hk : c [] = 0 → ∀ y, c ([] ++ [y]) = 0) (hcb : c [] < 1000000000) (hN : N < 1000000000) :
    Calls Try.prog 64 #[.pointer (some ⟨X, 0, none⟩), ptU (lvU A c [])] w fun e w' => ∃ b, e = .returned (.pointer (some ⟨b, 0, none⟩)) ∧ MoreU w w' X bits A c th id N X 1 [] b := by
  by_cases hc : 0 < c []
  · obtain ⟨b, hl, hb⟩ := h.lv hc
    have hx := h.box
    rw [hl] at hx ⊢
    refine (ut_more (h.node _ _ hb) rfl hcb).mono ?_
    rintro e w' ⟨rfl, rfl⟩
    refine ⟨b, rfl, ⟨A, id, N, h.bump0 hb hc _ (by omega), hb, by omega, fun _ _ h => .inl h, fun _ _ => rfl, fun _ _ => rfl⟩, (FrU.refl _ _).set (.inl (.inr ⟨_, hb⟩)) _ _, _, _, _, by rw [setHU (h.ne _ _ hb).symm]; exact hx, rfl⟩
  · have hl : lvU A c [] = none := if_neg hc
    have h0 : c [] = 0 := by omega
    have hx := h.box
    rw [hl] at hx ⊢
    refine (ut_moreNew hx hN).mono ?_
    rintro e w' ⟨rfl, rfl⟩
    refine ⟨_, rfl, ⟨_, _, _, by rw [h0]; exact h.grow0 h0 (hth h0) (hk h0), updU_same _ _ _, Nat.le_refl _, fun r b' hr => ?_, fun r hr => ?_, fun r hr => updU_other _ _ hr⟩, newU_fr _ _ _ _, _, _, _, newU_box hx, rfl⟩
    · by_cases e : r = []
      · subst e
        rw [updU_same] at hr; injection hr with hr
        exact .inr (by omega)
      · rw [updU_other _ _ e] at hr; exact .inl hr
    · by_cases e : r = []
      · subst e
        rw [hth h0] at hr; cases hr
      · rw [updU_other _ _ e]
/-- what oneLess leaves, ahead of the store of its answer -/
structure LessU (w w' : World) (X bits : Nat) (A : Pth → Option Nat) (c : Pth → Nat) (th : Pth → Bool) (id : Pth → Int) (P i : Nat) (q : Pth) (u : Value) : Prop where
  ex : ∃ N', TrieM (w'.setCell ⟨P, i, none⟩ u) X bits A (updU c q (c q - 1)) th id N'
  fr : FrU (FtU X A) w w'
  at_ : ∃ cs T v, w'.heap[P]? = some (.cells cs T (0, 0)) ∧ cs[i]? = some v
theorem ut_lessAt {w : World} {X bits N : Nat} {A : Pth → Option Nat} {c : Pth → Nat} {th : Pth → Bool} {id : Pth → Int} (h : TrieM w X bits A c th id N) (p : Pth) (x : Bool) {bp b : Nat} (hp : A p = some bp) (hb : A (p ++ [x]) = some b) (hc : 0 < c (p ++ [x])) (hcb : c (p ++ [x]) < 1000000000) (hN : N < 1000000000) :
    Calls Try.prog 68 #[.pointer (some ⟨X, 0, none⟩), .pointer (some ⟨b, 0, none⟩)] w fun e w' => ∃ o : Option Addr, e = .returned (.pointer o) ∧ LessU w w' X bits A c th id bp (ixU x) (p ++ [x]) (.pointer o) := by
  obtain ⟨v, hv⟩ := ix_ndU A c th id p x
  have hne : bp ≠ b := fun e => snoc_neU p x (h.inj _ _ b hb (e ▸ hp))
  obtain ⟨k, hk⟩ : ∃ k, c (p ++ [x]) = k + 1 := ⟨c (p ++ [x]) - 1, by omega⟩
  have hnode := h.node _ _ hb
  by_cases hk0 : 0 < k
  · refine (ut_less (n := k) hnode (by rw [← hk]; rfl) hk0 (by omega)).mono ?_
    rintro e w' ⟨rfl, rfl⟩
    exact ⟨_, rfl, ⟨N, by rw [hk, Nat.add_sub_cancel]; exact h.bump p x hp hb hc k hk0⟩, (FrU.refl _ _).set (.inl (.inr ⟨_, hb⟩)) _ _, _, _, v, by rw [setHU hne]; exact h.node p bp hp, hv⟩
  · obtain rfl : k = 0 := by omega
    obtain ⟨Ns, n1, n2, n3⟩ := h.num
    have hNp : 0 < N := by rw [n3]; exact List.length_pos_of_mem ((n2 _).2 hc)
    have hn1 : (ndU A c th id (p ++ [x]))[2]? = some (.int .i64 1) := by show some (Value.int .i64 (c (p ++ [x]) : Nat)) = _; rw [hk]; rfl
    refine (ut_less0 hnode hn1 h.box (h.ne _ _ hb).symm hN hNp).mono ?_
    rintro e w' ⟨rfl, rfl⟩
    exact ⟨none, rfl, ⟨N - 1, by rw [hk, Nat.add_sub_cancel]; exact h.drop p x hp hb hc⟩, ((FrU.refl _ _).set (.inl (.inr ⟨_, hb⟩)) _ _).set (.inl (.inl rfl)) _ _, _, _, v, by rw [setHU (h.ne _ _ hp), setHU hne]; exact h.node p bp hp, hv⟩
theorem ut_lessRoot {w : World} {X bits N : Nat} {A : Pth → Option Nat} {c : Pth → Nat} {th : Pth → Bool} {id : Pth → Int} (h : TrieM w X bits A c th id N) {b : Nat} (hb : A [] = some b) (hc : 0 < c []) (hcb : c [] < 1000000000) (hN : N < 1000000000) :
    Calls Try.prog 68 #[.pointer (some ⟨X, 0, none⟩), .pointer (some ⟨b, 0, none⟩)] w fun e w' => ∃ o : Option Addr, e = .returned (.pointer o) ∧ LessU w w' X bits A c th id X 1 [] (.pointer o) := by
  obtain ⟨k, hk⟩ : ∃ k, c [] = k + 1 := ⟨c [] - 1, by omega⟩
  have hnode := h.node _ _ hb
  by_cases hk0 : 0 < k
  · refine (ut_less (n := k) hnode (by rw [← hk]; rfl) hk0 (by omega)).mono ?_
    rintro e w' ⟨rfl, rfl⟩
    exact ⟨_, rfl, ⟨N, by rw [hk, Nat.add_sub_cancel]; exact h.bump0 hb hc k hk0⟩, (FrU.refl _ _).set (.inl (.inr ⟨_, hb⟩)) _ _, _, _, _, by rw [setHU (h.ne _ _ hb).symm]; exact h.box, rfl⟩
  · obtain rfl : k = 0 := by omega
    obtain ⟨Ns, n1, n2, n3⟩ := h.num
    have hNp : 0 < N := by rw [n3]; exact List.length_pos_of_mem ((n2 _).2 hc)
    have hn1 : (ndU A c th id [])[2]? = some (.int .i64 1) := by show some (Value.int .i64 (c [] : Nat)) = _; rw [hk]; rfl
    refine (ut_less0 hnode hn1 h.box (h.ne _ _ hb).symm hN hNp).mono ?_
    rintro e w' ⟨rfl, rfl⟩
    have hq : (w.setCell ⟨b, 2, none⟩ (.int .i64 (0 : Nat))).heap[X]? = some (.cells #[.int .i64 bits, ptU (lvU A c []), .int .i64 N] 128 (0, 0)) := by
      rw [setHU (h.ne _ _ hb).symm]; exact h.box
    exact ⟨none, rfl, ⟨N - 1, by rw [hk, Nat.add_sub_cancel]; exact h.drop0 hb hc⟩, ((FrU.refl _ _).set (.inl (.inr ⟨_, hb⟩)) _ _).set (.inl (.inl rfl)) _ _, _, _, _, blk_set hq 2 _, rfl⟩
end
end Go.Proofs.Ytmlocfojmncghaa
