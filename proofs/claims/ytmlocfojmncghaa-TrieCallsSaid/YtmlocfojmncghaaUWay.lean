/- Layer 12: the program's iterator over the nodes on the way of a value. -/
import Derived.Test.YtmlocfojmncghaaUIter
import Derived.Test.YtmlocfojmncghaaURnd
import Derived.Maps.RangeWalk
namespace Go.Proofs.Ytmlocfojmncghaa
open Go.RowKit Go.Shelf
attribute [local go_sem] Oper.semAt_some
/-- the nodes on the way q from p on -/
def wlU (A : Pth → Option Nat) (c : Pth → Nat) : Pth → Pth → List (Nat × Nat)
  | p, [] => match lvU A c p with
    | none => []
    | some b => [(p.length, b)]
  | p, x :: q => match lvU A c p with
    | none => []
    | some b => (p.length, b) :: wlU A c (p ++ [x]) q
theorem wlU_none {A : Pth → Option Nat} {c : Pth → Nat} {p : Pth} (h : lvU A c p = none) (q : Pth) : wlU A c p q = [] := by
  cases q <;> simp [wlU, h]
theorem wlU_cons {A : Pth → Option Nat} {c : Pth → Nat} {p : Pth} {b : Nat} (h : lvU A c p = some b) (x : Bool) (q : Pth) : wlU A c p (x :: q) = (p.length, b) :: wlU A c (p ++ [x]) q := by
  simp [wlU, h]
theorem wlU_nil {A : Pth → Option Nat} {c : Pth → Nat} {p : Pth} {b : Nat} (h : lvU A c p = some b) : wlU A c p [] = [(p.length, b)] := by
  simp [wlU, h]
/-- all but D stays -/
def KBU (D : Nat → Prop) (W W' : World) : Prop := W.heap.size ≤ W'.heap.size ∧ ∀ (j : Nat) (o : Obj), W.heap[j]? = some o → ¬ D j → W'.heap[j]? = some o
theorem KBU.refl (D : Nat → Prop) (W : World) : KBU D W W := ⟨Nat.le_refl _, fun _ _ h _ => h⟩
theorem KBU.trans {D : Nat → Prop} {A B C : World} (h : KBU D A B) (k : KBU D B C) : KBU D A C := ⟨Nat.le_trans h.1 k.1, fun j o ho hd => k.2 j o (h.2 j o ho hd) hd⟩
theorem KBU.set {D : Nat → Prop} {W W' : World} (h : KBU D W W') {k : Nat} (hk : D k) (j : Nat) (v : Value) : KBU D W (W'.setCell ⟨k, j, none⟩ v) :=
  ⟨by simp; exact h.1, fun i _ ho hd => by rw [setHU (fun e => hd (by rw [e]; exact hk))]; exact h.2 i _ ho hd⟩
theorem KBU.drew {D : Nat → Prop} {W W' : World} (h : KBU D W W') : KBU D W W'.drew := ⟨h.1, h.2⟩
theorem KBU.of_below {D : Nat → Prop} {W W' : World} (h : Below W.heap.size W W') : KBU D W W' := ⟨h.size, fun j _ ho _ => (h.block j (heap_ltU ho)).trans ho⟩
theorem KBU.put {D : Nat → Prop} {W W' : World} (h : KBU D W W') {k : Nat} (hk : D k) (o : Obj) : KBU D W (W'.putObj k o) :=
  ⟨by simp; exact h.1, fun i _ ho hd => (World.putObj_heap_other (fun e => hd (by rw [e]; exact hk))).trans (h.2 i _ ho hd)⟩
theorem KBU.mono {D D' : Nat → Prop} {W W' : World} (h : KBU D W W') (hd : ∀ j, D j → D' j) : KBU D' W W' := ⟨h.1, fun j o ho hn => h.2 j o ho (fun e => hn (hd j e))⟩
/-- a world behind which what lay below B is as it was -/
theorem KBU.below {D : Nat → Prop} {W A B : World} (h : KBU D W A) (hb : Below W.heap.size A B) : KBU D W B :=
  ⟨Nat.le_trans h.1 hb.size, fun j o ho hd => (hb.block j (heap_ltU ho)).trans (h.2 j o ho hd)⟩
theorem TrieM.kb {w w' : World} {X bits N : Nat} {A : Pth → Option Nat} {c : Pth → Nat} {th : Pth → Bool} {id : Pth → Int} (h : TrieM w X bits A c th id N) {D : Nat → Prop} (hk : KBU D w w') (hX : ¬ D X) (hA : ∀ p b, A p = some b → ¬ D b) : TrieM w' X bits A c th id N :=
  ⟨hk.2 X _ h.box hX, fun p b e => hk.2 b _ (h.node p b e) (hA p b e), h.inj, h.ne, h.has, h.num⟩
def encWU (x : Nat × Nat) : Array Value := #[.int .i64 (x.1 : Int), .pointer (some ⟨x.2, 0, none⟩)]
theorem roundU {m m' l l' : Nat} {P : Program} {f : FuncId} {tmps : Array Value} {assign body : Code} {w : World} {R : Ending → World → Prop} (h : RoundIn Fence.wide m P l f tmps assign body w R) : RoundIn (Fence.wide.inRound l') m' P l f tmps assign body w R := ⟨h.1, fun c cs _ => h.2 c cs (room_wide _)⟩
theorem roundU0 {m m' l : Nat} {P : Program} {f : FuncId} {tmps : Array Value} {assign body : Code} {w : World} {R : Ending → World → Prop} (h : RoundIn Fence.wide m P l f tmps assign body w R) : RoundIn Fence.wide m' P l f tmps assign body w R := ⟨h.1, fun c cs _ => h.2 c cs (room_wide _)⟩
/-- the invariant of way's loop -/
structure WyU (A : Pth → Option Nat) (c : Pth → Nat) (D : Nat → Prop) (J : List (Nat × Nat) → World → Prop) (w2 : World) (a d : Nat) (pre : Pth) (ys : List (Nat × Nat)) (W : World) : Prop where
  wl : ∀ rest, wlU A c [] (pre ++ rest) = ys ++ wlU A c pre rest
  j : J ys W
  kb : KBU (fun k => D k ∨ k = a ∨ k = d) w2 W
  at_ : W.heap[a]? = some (.cells #[ptU (lvU A c pre)] 126 (0, 0))
  dp : W.heap[d]? = some (.cells #[.int .i64 (pre.length : Int)] 3 (0, 0))
/-- the end of a round of way's loop -/
theorem wayU_end {A : Pth → Option Nat} {c : Pth → Nat} {D : Nat → Prop} {J : List (Nat × Nat) → World → Prop} {v1 W' W3 : World} {B b : Nat} {pre : Pth} {ys : List (Nat × Nat)} {x : Bool} (hJ : StaysU B J) (hI : WyU A c D J v1 (B + 1) (B + 2) pre ys W') (hl : lvU A c pre = some b) (hk3 : KBU D W' W3) (hJ3 : J (ys ++ [(pre.length, b)]) W3) (hD : ∀ j, B ≤ j → ¬ D j) (hpl : pre.length < 128) {u : Value} {z : Int} (hu : u = ptU (lvU A c (pre ++ [x]))) (hz : z = IntKind.i64.wrap ((pre.length : Int) + 1)) :
    WyU A c D J v1 (B + 1) (B + 2) (pre ++ [x]) (ys ++ [(pre.length, b)]) ((W3.setCell ⟨B + 1, 0, none⟩ u).setCell ⟨B + 2, 0, none⟩ (.int .i64 z)).drew ∧
    ∀ j, B ≤ j → j ≠ B + 1 → j ≠ B + 2 → j < W'.heap.size → ((W3.setCell ⟨B + 1, 0, none⟩ u).setCell ⟨B + 2, 0, none⟩ (.int .i64 z)).drew.heap[j]? = W'.heap[j]? := by
  have hz' : z = ((pre ++ [x]).length : Int) := by
    rw [hz, IntWalk.i64_in _ (by omega)]; simp
  subst hu
  have z1 := hk3.2 _ _ hI.at_ (hD _ (by omega))
  have z2 := hk3.2 _ _ hI.dp (hD _ (by omega))
  refine ⟨⟨fun rest => ?_, hJ _ _ _ hJ3 ((((Below.refl B W3).setCell (p := ⟨B + 1, 0, none⟩) (by show B ≤ B + 1; omega) _).setCell (p := ⟨B + 2, 0, none⟩) (by show B ≤ B + 2; omega) _).drew), ?_, ?_, ?_⟩, ?_⟩
  · have := hI.wl (x :: rest)
    rw [wlU_cons hl] at this
    simpa using this
  · exact (((hI.kb.trans (hk3.mono fun j h => .inl h)).set (.inr (.inl rfl)) _ _).set (.inr (.inr rfl)) _ _).drew
  · show ((W3.setCell ⟨B + 1, 0, none⟩ _).setCell ⟨B + 2, 0, none⟩ _).heap[B + 1]? = _
    rw [setHU (by omega), blk_set z1]
    rfl
  · show ((W3.setCell ⟨B + 1, 0, none⟩ _).setCell ⟨B + 2, 0, none⟩ _).heap[B + 2]? = _
    rw [blk_set (by rw [setHU (by omega)]; exact z2), ← hz']
    rfl
  · intro j h1 h2 h3 h4
    show ((W3.setCell ⟨B + 1, 0, none⟩ _).setCell ⟨B + 2, 0, none⟩ _).heap[j]? = _
    rw [setHU h3, setHU h2, Array.getElem?_eq_getElem h4]
    exact hk3.2 _ _ (Array.getElem?_eq_getElem h4) (hD j h1)
set_option maxRecDepth 100000 in
set_option maxHeartbeats 4000000 in
theorem ut_way1 (n : Nat) (hn : 2 ≤ n) (l Bt bits v len : Nat) (hv : v < 2 ^ 128) (hlb : len ≤ bits) (hb8 : bits ≤ 128) (D : Nat → Prop) (J Jx : List (Nat × Nat) → World → Prop) (W : World) (hJ : StaysU W.heap.size J) (hJx : StaysU W.heap.size Jx)
    {X N : Nat} {A : Pth → Option Nat} {c : Pth → Nat} {th : Pth → Bool} {id : Pth → Int} (hT : TrieM W X bits A c th id N) (hDX : ¬ D X) (hDA : ∀ p b, A p = some b → ¬ D b) (hDl : ∀ j, D j → j < W.heap.size)
    (hY : ∀ pre x W1, pre ++ [x] <+: wlU A c [] (pthU bits v len) → J pre W1 → YieldAt Fence.wide (5 - 1) Try.prog l (encWU x) W1 fun e W' =>
      (e = .returned (.bool true) ∧ J (pre ++ [x]) W' ∧ KBU D W1 W') ∨ (e = .returned (.bool false) ∧ Jx (pre ++ [x]) W' ∧ KBU D W1 W'))
    (b0 : W.heap[Bt]? = some (.cells #[.pointer (some ⟨X, 0, none⟩)] 54 (0, 0))) (b1 : W.heap[Bt + 1]? = some (.cells #[.int .u64 (hi v), .int .u64 (lo v)] 29 (0, 0))) (b2 : W.heap[Bt + 2]? = some (.cells #[.int .i64 len] 3 (0, 0))) (h0 : J [] W) :
    CallsIn Fence.wide n Try.prog 94 #[.func (.yield l) #[] #[], .pointer (some ⟨Bt, 0, none⟩), .pointer (some ⟨Bt + 1, 0, none⟩), .pointer (some ⟨Bt + 2, 0, none⟩)] W fun e W' => (∃ v, e = .returned v) ∧
      ((∃ ys, ys = wlU A c [] (pthU bits v len) ∧ J ys W') ∨ (∃ pre, True ∧ Jx pre W')) := by
  refine callsIn_of_wp_marks Try.func94 rfl trivial ?_ rfl
  simp only [Try.ntmps94, List.size_toArray, List.length_cons, List.length_nil, Nat.reduceAdd, Nat.reduceSub, Array.replicate_succ, Array.replicate_zero, List.push_toArray, List.append_toArray, List.nil_append, List.cons_append]
  have hX := hT.box
  have hXl := heap_ltU hX
  have hBl := heap_ltU b0
  have hBl1 := heap_ltU b1
  have hBl2 := heap_ltU b2
  have t1 := (Below.heap_alloc W (.cells #[.func (.yield l) #[] #[]] 174) _ hXl).trans hX
  have c1 := blk_cell ((Below.heap_alloc W (.cells #[.func (.yield l) #[] #[]] 174) _ hBl).trans b0) 0 _ rfl
  have c2 := blk_cell t1 1 _ rfl
  have c3 := blk_cell t1 0 _ rfl
  unfold ptU at c2
  gi_wp2
  obtain ⟨W0, hW0⟩ : ∃ W0, W0 = (((W.alloc (.cells #[.func (.yield l) #[] #[]] 174)).alloc (.cells #[ptU (lvU A c [])] 126)).alloc (.cells #[.int .i64 0] 3)) := ⟨_, rfl⟩
  have hB0 : Below W.heap.size W W0 := by rw [hW0]; exact (((Below.refl _ W).alloc (Nat.le_refl _) _).alloc (by simp) _).alloc (by simp; omega) _
  have hz0 : W0.heap.size = W.heap.size + 3 := by rw [hW0]; simp
  have a0 : W0.heap[W.heap.size]? = some (.cells #[.func (.yield l) #[] #[]] 174 (0, 0)) := by
    rw [hW0]; exact (Below.heap_alloc _ _ _ (by simp; omega)).trans ((Below.heap_alloc _ _ _ (by simp)).trans (heap_alloc_new _ _))
  have a1 : W0.heap[W.heap.size + 1]? = some (.cells #[ptU (lvU A c [])] 126 (0, 0)) := by
    have h := heap_alloc_new (W.alloc (.cells #[.func (.yield l) #[] #[]] 174)) (.cells #[ptU (lvU A c [])] 126)
    rw [World.size_alloc] at h
    rw [hW0]; exact (Below.heap_alloc _ _ _ (by simp)).trans h
  have a2 : W0.heap[W.heap.size + 2]? = some (.cells #[.int .i64 0] 3 (0, 0)) := by
    have h := heap_alloc_new ((W.alloc (.cells #[.func (.yield l) #[] #[]] 174)).alloc (.cells #[ptU (lvU A c [])] 126)) (.cells #[.int .i64 0] 3)
    rw [World.size_alloc, World.size_alloc] at h
    rw [hW0]; exact h
  rw [show (((W.alloc (.cells #[.func (.yield l) #[] #[]] 174)).alloc (.cells #[.pointer (Option.map (fun b => ⟨b, 0, none⟩) (lvU A c []))] 126)).alloc (.cells #[.int .i64 0] 3)) = W0 from hW0.symm]
  have HKS : Hid (∀ w', Below W0.heap.size W0 w' → Below W0.heap.size W0 w' ∧ w'.cell? ⟨Bt, 0, none⟩ = some (.pointer (some ⟨X, 0, none⟩)) ∧ w'.cell? ⟨Bt + 1, 0, none⟩ = some (.int .u64 (hi v)) ∧ w'.cell? ⟨Bt + 1, 1, none⟩ = some (.int .u64 (lo v)) ∧ w'.cell? ⟨Bt + 2, 0, none⟩ = some (.int .i64 len) ∧ w'.cell? ⟨X, 0, none⟩ = some (.int .i64 bits)) := Lib.hid fun w' hb => by
    have hb1 : Below W.heap.size W w' := hB0.trans (hb.mono hB0.size)
    have q0 := (hb1.block _ hBl).trans b0
    have q1 := (hb1.block _ hBl1).trans b1
    have q2 := (hb1.block _ hBl2).trans b2
    have q3 := (hb1.block _ hXl).trans hX
    exact ⟨hb, blk_cell q0 0 _ rfl, blk_cell q1 0 _ rfl, blk_cell q1 1 _ rfl, blk_cell q2 0 _ rfl, blk_cell q3 0 _ rfl⟩
  have HB0 := Lib.hid hB0
  have HA := Lib.hid (And.intro a0 (And.intro a1 a2))
  clear hW0 hB0 a0 a1 a2 c1 c2 c3 t1
  refine wpIn_wide.2 ?_
  go_region_held3 (fun w' => Below W0.heap.size W0 w' ∧ w'.cell? ⟨Bt, 0, none⟩ = some (.pointer (some ⟨X, 0, none⟩)) ∧ w'.cell? ⟨Bt + 1, 0, none⟩ = some (.int .u64 (hi v)) ∧ w'.cell? ⟨Bt + 1, 1, none⟩ = some (.int .u64 (lo v)) ∧ w'.cell? ⟨Bt + 2, 0, none⟩ = some (.int .i64 len) ∧ w'.cell? ⟨X, 0, none⟩ = some (.int .i64 bits))
    (first
      | exact HKS.out _ (Below.drew (Below.refl _ _))
      | exact HKS.out _ (below_call (And.left (by assumption)) (by assumption))
      | assumption)
    (first
      | (go_at_call 65; (with_reducible refine (ut_firstB v bits len _).mono ?_); rintro en v1 ⟨rfl, hv1, hfb⟩))
  rename_i hHeld
  have hBw : Below W.heap.size W v1 := HB0.out.trans (hHeld.1.mono HB0.out.size)
  have hzv : v1.heap.size = W.heap.size + 6 := by have := hfb.size; simp only [World.size_drew] at this; omega
  obtain ⟨a0, a1, a2⟩ := HA.out
  have d0 := (hHeld.1.block _ (heap_ltU a0)).trans a0
  have d1 := (hHeld.1.block _ (heap_ltU a1)).trans a1
  have d2 := (hHeld.1.block _ (heap_ltU a2)).trans a2
  have f0 := hfb.bv
  have f1 := hfb.bb
  have f2 := hfb.bn
  simp only [World.size_drew, hz0] at f0 f1 f2
  clear a0 a1 a2 HA HKS hHeld hfb hv1
  unfold fvU
  gi_wp2
  refine wp_rangeB (gf := 88) (lb := #[.pointer (some ⟨W.heap.size + 3 + 2, 0, none⟩), .pointer (some ⟨W.heap.size + 3, 0, none⟩), .pointer (some ⟨W.heap.size + 3 + 1, 0, none⟩)]) rfl (enters_of Try.func88 (by kernel_rfl) rfl)
    (ut_bits1_B (n - 1) (by omega) (W.heap.size + 3 + 2) (W.heap.size + 3) (W.heap.size + 3 + 1) bits v len hv hlb hb8 v1 f2 f0 f1) KpZ.trans
    (fun W' o' => ⟨⟨World.putObj_heap_other (by omega), World.putObj_heap_other (by omega)⟩, by simp⟩) (Below.refl _ _) (fun _ => rfl)
    (fun pre W' => ∃ ys, WyU A c D J v1 (W.heap.size + 1) (W.heap.size + 2) pre ys W')
    (fun cd _ W' => cd = .ret ∧ ((∃ ys, ys = wlU A c [] (pthU bits v len) ∧ J ys W') ∨ (∃ pre, True ∧ Jx pre W')))
    (fun pre X1 X2 h hb => by
      obtain ⟨ys, h1⟩ := h
      exact ⟨ys, h1.wl, hJ _ _ _ h1.j (hb.mono (by omega)), h1.kb.below hb, (hb.block _ (by omega)).trans h1.at_, (hb.block _ (by omega)).trans h1.dp⟩)
    (fun cd pre X1 X2 h hb => ⟨h.1, h.2.imp (fun ⟨ys, e, h2⟩ => ⟨ys, e, hJ _ _ _ h2 (hb.mono (by omega))⟩) (fun ⟨ys, e, h2⟩ => ⟨ys, e, hJx _ _ _ h2 (hb.mono (by omega))⟩)⟩)
    ⟨[], fun rest => rfl, hJ _ _ _ h0 hBw, KBU.refl _ _, d1, d2⟩
    (fun x => { tmps := #[.func (.yield l) #[] #[], .pointer (some ⟨Bt, 0, none⟩), .pointer (some ⟨Bt + 1, 0, none⟩), .pointer (some ⟨Bt + 2, 0, none⟩), .pointer (some ⟨W.heap.size, 0, none⟩), .pointer (some ⟨W.heap.size + 1, 0, none⟩), .pointer (some ⟨W.heap.size + 1 + 1, 0, none⟩), .int .i64 (bU x), .pointer (some ⟨X, 0, none⟩), .pointer (some ⟨X, 0, none⟩), .pointer (some ⟨X, 1, none⟩), .pointer (Option.map (fun b => ⟨b, 0, none⟩) (lvU A c [])), .agg #[.int .u64 (hi v), .int .u64 (lo v)], .pointer (some ⟨X, 0, none⟩), .pointer (some ⟨X, 0, none⟩), .pointer (some ⟨X, 0, none⟩), .int .i64 bits, .int .i64 len, .func (.func 88) #[] #[.pointer (some ⟨W.heap.size + 3 + 2, 0, none⟩), .pointer (some ⟨W.heap.size + 3, 0, none⟩), .pointer (some ⟨W.heap.size + 3 + 1, 0, none⟩)], .int .i64 (bU x), undef, undef, undef, undef, undef, undef, undef, undef, undef, undef, undef, undef, undef, undef, undef, undef, undef, undef, undef, undef, undef, undef, undef], defers := [] })
    ?assign ?body ?done ?stop
  case assign =>
    intro l2 x W' K hK
    unfold encBU
    gi_wp2
    exact hK
  case body =>
    rintro l2 pre x W' hGd hz' ⟨ys, hI⟩
    have hfol : Try.prog.follows .mixedOrders = true := by kernel_rfl
    have hnd : ∀ j, W.heap.size ≤ j → ¬ D j := fun j hj h => by have := hDl j h; omega
    have g0 := hI.kb.2 _ _ d0 (by rintro (h | h | h); exact hnd _ (Nat.le_refl _) h; omega; omega)
    have y0 := blk_cell g0 0 _ rfl
    have y1 := blk_cell hI.at_ 0 _ rfl
    have y2 := blk_cell hI.dp 0 _ rfl
    obtain ⟨rest, hrest⟩ := hGd
    have hq : pre ++ (x :: rest) = pthU bits v len := by rw [← hrest]; simp
    cases hl : lvU A c pre with
    | none =>
      rw [hl] at y1
      unfold ptU at y1
      simp only [Option.map_none] at y1
      have hw : ys = wlU A c [] (pthU bits v len) := by rw [← hq, hI.wl, wlU_none hl, List.append_nil]
      gi_wp2
      refine ⟨fun _ h => (by cases h), ?_⟩
      gi_wp2
      exact ⟨fun _ _ _ => rfl, KpZ.refl _ _ _, rfl, .inl ⟨ys, hw, hI.j⟩⟩
    | some b =>
      rw [hl] at y1
      unfold ptU at y1
      simp only [Option.map_some] at y1
      have hwl : wlU A c [] (pthU bits v len) = ys ++ (pre.length, b) :: wlU A c (pre ++ [x]) rest := by rw [← hq, hI.wl, wlU_cons hl]
      have hTw : TrieM W' X bits A c th id N := (hT.below hBw).kb hI.kb (by rintro (h | h | h); exact hDX h; omega; omega) (fun p b' hb' => by have := hT.ltA hb'; rintro (h | h | h); exact hDA _ _ hb' h; omega; omega)
      have hAb : A pre = some b := by unfold lvU at hl; split at hl; exact hl; cases hl
      obtain ⟨fn, tmps, assign, body, hy, hR⟩ := hY ys (pre.length, b) W' ⟨wlU A c (pre ++ [x]) rest, by rw [hwl]; simp⟩ hI.j
      dsimp only [encWU] at hy
      gi_wp2
      refine ⟨fun h => by simp [Fence.wide] at h, (roundU hR).mono ?_⟩
      rintro e W3 (⟨rfl, hJ3, hk3⟩ | ⟨rfl, hJx3, hk3⟩)
      · have hT3 := hTw.kb hk3 hDX hDA
        have z1 := hk3.2 _ _ hI.at_ (hnd _ (by omega))
        have z2 := hk3.2 _ _ hI.dp (hnd _ (by omega))
        have z3 := hT3.node _ _ hAb
        rw [hl] at z1
        have k1 := blk_cell z1 0 _ rfl
        have k2 := blk_cell z2 0 _ rfl
        have k3 : W3.cell? ⟨b, 0, none⟩ = some (.pointer ((lvU A c (pre ++ [false])).map fun b => ⟨b, 0, none⟩)) := blk_cell z3 0 _ rfl
        have k4 : W3.cell? ⟨b, 1, none⟩ = some (.pointer ((lvU A c (pre ++ [true])).map fun b => ⟨b, 0, none⟩)) := blk_cell z3 1 _ rfl
        have hpl : pre.length < 128 := by have := congrArg List.length hq; rw [pthU_len] at this; simp at this; omega
        have p1 : W3.frozen? ⟨W.heap.size + 1, 0, none⟩ = false := by simp [World.frozen?, z1]
        have p2 : W3.frozen? ⟨W.heap.size + 1 + 1, 0, none⟩ = false := by simp [World.frozen?, z2]
        unfold ptU at k1
        simp only [Option.map_some] at k1
        have hfin : ∀ (u : Value) (z : Int), u = ptU (lvU A c (pre ++ [x])) → z = IntKind.i64.wrap ((pre.length : Int) + 1) → ∀ a', ownPostB v1.heap.size (KpZ (W.heap.size + 3) (W.heap.size + 3 + 1)) (fun pre W' => ∃ ys, WyU A c D J v1 (W.heap.size + 1) (W.heap.size + 2) pre ys W') (fun cd _ W' => cd = .ret ∧ ((∃ ys, ys = wlU A c [] (pthU bits v len) ∧ J ys W') ∨ (∃ pre, True ∧ Jx pre W'))) (pre ++ [x]) W' .normal a' ((W3.setCell ⟨W.heap.size + 1, 0, none⟩ u).setCell ⟨W.heap.size + 1 + 1, 0, none⟩ (.int .i64 z)).drew := by
          intro u z hu hz a'
          obtain ⟨e1, e2⟩ := wayU_end hJ hI hl hk3 hJ3 hnd hpl hu hz
          have hsz : W'.heap.size ≤ W3.heap.size := hk3.1
          exact ⟨fun j h1 h2 => e2 j (by omega) (by omega) (by omega) (by omega), ⟨⟨e2 _ (by omega) (by omega) (by omega) (by omega), e2 _ (by omega) (by omega) (by omega) (by omega)⟩, by simp; exact hsz⟩, _, e1⟩
        cases x
        · unfold bU
          simp only [Bool.false_eq_true, if_false]
          gi_wp2
          refine wp_round_lastH (N := 9) (S := fun w' => w'.cell? ⟨W.heap.size + 1 + 1, 0, none⟩ = some (.int .i64 (pre.length : Int))) hfol (by kernel_rfl) (fun ⟨_, _, h⟩ => h) (by kernel_rfl) k2 (fun hHeld => ?_)
          refine wpAnyH_take (i := 6) (v := ?_) rfl (by kernel_rfl) (by kernel_rfl) (by kernel_rfl) (fun _ _ _ h => h) (Or.inl ⟨by rfl, ?_⟩) hHeld ?_
          rotate_left
          · (intro w1 hSw; (try dsimp only at hSw); (try obtain ⟨sA, sB, sC⟩ := hSw); go_simp; all_goals with_reducible rfl)
          (try go_frame)
          refine wpAnyH_take (i := 7) (v := ?_) rfl (by kernel_rfl) (by kernel_rfl) (by kernel_rfl) (fun _ _ _ h => h) (Or.inl ⟨by rfl, ?_⟩) hHeld ?_
          rotate_left
          · (intro w1 hSw; (try dsimp only at hSw); (try obtain ⟨sA, sB, sC⟩ := hSw); go_simp; all_goals with_reducible rfl)
          (try go_frame)
          refine wpAnyH_take (i := 1) (v := ?_) rfl (by kernel_rfl) (by kernel_rfl) (by kernel_rfl) (fun _ _ _ h => h) (Or.inl ⟨by rfl, ?_⟩) hHeld ?_
          rotate_left
          · (intro w1 hSw; (try dsimp only at hSw); (try obtain ⟨sA, sB, sC⟩ := hSw); go_simp; all_goals with_reducible rfl)
          (try go_frame)
          refine wpAnyH_ready (rs := [0]) (by kernel_rfl) (by simp) ?_
          refine AllReadyH.cons rfl (fun K hK => ?_) AllReadyH.nil
          go_simp
          go_wp2_with fail
          refine hK.out _ _ ?_ (fun hHeld2 => ?_)
          · exact k2
          clear hK K hHeld
          have hHeld := hHeld2
          clear hHeld2
          (try go_frame)
          refine wpAnyH_take (i := 2) (v := ?_) rfl (by kernel_rfl) (by kernel_rfl) (by kernel_rfl) (fun _ _ _ h => h) (Or.inl ⟨by rfl, ?_⟩) hHeld ?_
          rotate_left
          · (intro w1 hSw; (try dsimp only at hSw); (try obtain ⟨sA, sB, sC⟩ := hSw); go_simp; all_goals with_reducible rfl)
          (try go_frame)
          refine wpAnyH_take (i := 3) (v := ?_) rfl (by kernel_rfl) (by kernel_rfl) (by kernel_rfl) (fun _ _ _ h => h) (Or.inl ⟨by rfl, ?_⟩) hHeld ?_
          rotate_left
          · (intro w1 hSw; (try dsimp only at hSw); (try obtain ⟨sA, sB, sC⟩ := hSw); go_simp; all_goals with_reducible rfl)
          (try go_frame)
          refine wpAnyH_take (i := 4) (v := ?_) rfl (by kernel_rfl) (by kernel_rfl) (by kernel_rfl) (fun _ _ _ h => h) (Or.inl ⟨by rfl, ?_⟩) hHeld ?_
          rotate_left
          · (intro w1 hSw; (try dsimp only at hSw); (try obtain ⟨sA, sB, sC⟩ := hSw); go_simp; all_goals with_reducible rfl)
          (try go_frame)
          refine wpAnyH_ready (rs := [5]) (by kernel_rfl) (by simp) ?_
          refine AllReadyH.cons rfl (fun K hK => ?_) AllReadyH.nil
          go_simp
          go_wp2_with fail
          refine hK.out _ _ ?_ (fun hHeld2 => ?_)
          · exact k2
          clear hK K hHeld
          have hHeld := hHeld2
          clear hHeld2
          (try go_frame)
          refine wpAnyH_ready (rs := [8]) (by kernel_rfl) (by simp) ?_
          refine AllReadyH.cons rfl (fun K hK => ?_) AllReadyH.nil
          go_simp
          go_wp2_with fail
          refine hK.out _ _ ?_ (fun hHeld2 => ?_)
          · exact (World.cell?_setCell_far _ _ _ _ (by show W.heap.size + 1 ≠ W.heap.size + 1 + 1; omega)).trans k2
          clear hK K hHeld
          have hHeld := hHeld2
          clear hHeld2
          (try go_frame)
          refine wpAnyH_done (by kernel_rfl) ?_ _
          unfold QL
          refine wpOp_step rfl (fun K hK => ?_)
          go_simp
          refine hK _ _ ?_
          clear hK K
          exact hfin _ _ rfl rfl ⟨#[], []⟩
        · unfold bU
          simp only [if_true]
          gi_wp2
          refine wp_round_lastH (N := 9) (S := fun w' => w'.cell? ⟨W.heap.size + 1 + 1, 0, none⟩ = some (.int .i64 (pre.length : Int))) hfol (by kernel_rfl) (fun ⟨_, _, h⟩ => h) (by kernel_rfl) k2 (fun hHeld => ?_)
          refine wpAnyH_take (i := 6) (v := ?_) rfl (by kernel_rfl) (by kernel_rfl) (by kernel_rfl) (fun _ _ _ h => h) (Or.inl ⟨by rfl, ?_⟩) hHeld ?_
          rotate_left
          · (intro w1 hSw; (try dsimp only at hSw); (try obtain ⟨sA, sB, sC⟩ := hSw); go_simp; all_goals with_reducible rfl)
          (try go_frame)
          refine wpAnyH_take (i := 7) (v := ?_) rfl (by kernel_rfl) (by kernel_rfl) (by kernel_rfl) (fun _ _ _ h => h) (Or.inl ⟨by rfl, ?_⟩) hHeld ?_
          rotate_left
          · (intro w1 hSw; (try dsimp only at hSw); (try obtain ⟨sA, sB, sC⟩ := hSw); go_simp; all_goals with_reducible rfl)
          (try go_frame)
          refine wpAnyH_take (i := 1) (v := ?_) rfl (by kernel_rfl) (by kernel_rfl) (by kernel_rfl) (fun _ _ _ h => h) (Or.inl ⟨by rfl, ?_⟩) hHeld ?_
          rotate_left
          · (intro w1 hSw; (try dsimp only at hSw); (try obtain ⟨sA, sB, sC⟩ := hSw); go_simp; all_goals with_reducible rfl)
          (try go_frame)
          refine wpAnyH_ready (rs := [0]) (by kernel_rfl) (by simp) ?_
          refine AllReadyH.cons rfl (fun K hK => ?_) AllReadyH.nil
          go_simp
          go_wp2_with fail
          refine hK.out _ _ ?_ (fun hHeld2 => ?_)
          · exact k2
          clear hK K hHeld
          have hHeld := hHeld2
          clear hHeld2
          (try go_frame)
          refine wpAnyH_take (i := 2) (v := ?_) rfl (by kernel_rfl) (by kernel_rfl) (by kernel_rfl) (fun _ _ _ h => h) (Or.inl ⟨by rfl, ?_⟩) hHeld ?_
          rotate_left
          · (intro w1 hSw; (try dsimp only at hSw); (try obtain ⟨sA, sB, sC⟩ := hSw); go_simp; all_goals with_reducible rfl)
          (try go_frame)
          refine wpAnyH_take (i := 3) (v := ?_) rfl (by kernel_rfl) (by kernel_rfl) (by kernel_rfl) (fun _ _ _ h => h) (Or.inl ⟨by rfl, ?_⟩) hHeld ?_
          rotate_left
          · (intro w1 hSw; (try dsimp only at hSw); (try obtain ⟨sA, sB, sC⟩ := hSw); go_simp; all_goals with_reducible rfl)
          (try go_frame)
          refine wpAnyH_take (i := 4) (v := ?_) rfl (by kernel_rfl) (by kernel_rfl) (by kernel_rfl) (fun _ _ _ h => h) (Or.inl ⟨by rfl, ?_⟩) hHeld ?_
          rotate_left
          · (intro w1 hSw; (try dsimp only at hSw); (try obtain ⟨sA, sB, sC⟩ := hSw); go_simp; all_goals with_reducible rfl)
          (try go_frame)
          refine wpAnyH_ready (rs := [5]) (by kernel_rfl) (by simp) ?_
          refine AllReadyH.cons rfl (fun K hK => ?_) AllReadyH.nil
          go_simp
          go_wp2_with fail
          refine hK.out _ _ ?_ (fun hHeld2 => ?_)
          · exact k2
          clear hK K hHeld
          have hHeld := hHeld2
          clear hHeld2
          (try go_frame)
          refine wpAnyH_ready (rs := [8]) (by kernel_rfl) (by simp) ?_
          refine AllReadyH.cons rfl (fun K hK => ?_) AllReadyH.nil
          go_simp
          go_wp2_with fail
          refine hK.out _ _ ?_ (fun hHeld2 => ?_)
          · exact (World.cell?_setCell_far _ _ _ _ (by show W.heap.size + 1 ≠ W.heap.size + 1 + 1; omega)).trans k2
          clear hK K hHeld
          have hHeld := hHeld2
          clear hHeld2
          (try go_frame)
          refine wpAnyH_done (by kernel_rfl) ?_ _
          unfold QL
          refine wpOp_step rfl (fun K hK => ?_)
          go_simp
          refine hK _ _ ?_
          clear hK K
          exact hfin _ _ rfl rfl ⟨#[], []⟩
      · gi_wp2
        have same : ∀ j, W.heap.size ≤ j → j < W'.heap.size → W3.heap[j]? = W'.heap[j]? := fun j h1 h2 => by
          rw [Array.getElem?_eq_getElem h2]
          exact hk3.2 _ _ (Array.getElem?_eq_getElem h2) (hnd j h1)
        exact ⟨fun j h1 h2 => same j (by omega) (by omega), ⟨⟨same _ (by omega) (by omega), same _ (by omega) (by omega)⟩, hk3.1⟩, rfl, .inr ⟨_, trivial, hJx3⟩⟩
  case done =>
    rintro D2 ys W' hD rfl ⟨zs, hI⟩ hK
    have hnd : ∀ j, W.heap.size ≤ j → ¬ D j := fun j hj h => by have := hDl j h; omega
    have g0 := hI.kb.2 _ _ d0 (by rintro (h | h | h); exact hnd _ (Nat.le_refl _) h; omega; omega)
    have y0 := blk_cell g0 0 _ rfl
    have y1 := blk_cell hI.at_ 0 _ rfl
    have y2 := blk_cell hI.dp 0 _ rfl
    have hw := hI.wl []
    rw [List.append_nil] at hw
    have hBw' : W.heap.size ≤ W'.heap.size := by have := hI.kb.1; omega
    cases hl : lvU A c (pthU bits v len) with
    | none =>
      rw [hl] at y1
      unfold ptU at y1
      simp only [Option.map_none] at y1
      rw [wlU_none hl, List.append_nil] at hw
      gi_wp2
      refine ⟨by simp, .inl ⟨_, _, rfl, run_takeDeferred hK, ?_⟩⟩
      exact ⟨_, results_none rfl _ _ _, ⟨_, rfl⟩, .inl ⟨zs, hw.symm, hJ _ _ _ hI.j (below_putU W' D2 _ hBw' (by omega))⟩⟩
    | some b =>
      rw [hl] at y1
      unfold ptU at y1
      simp only [Option.map_some] at y1
      rw [wlU_nil hl] at hw
      obtain ⟨fn, tmps, assign, body, hy, hR⟩ := hY zs ((pthU bits v len).length, b) W' (by rw [hw]; exact List.prefix_refl _) hI.j
      dsimp only [encWU] at hy
      gi_wp2
      refine ⟨fun h => by simp [Fence.wide] at h, (roundU0 hR).mono ?_⟩
      have hKD : ∀ W3, KBU D W' W3 → W3.heap[D2]? = some (.deferred (some [])) := fun W3 h => h.2 _ _ hK (hnd _ (by omega))
      rintro e W3 (⟨rfl, hJ3, hk3⟩ | ⟨rfl, hJx3, hk3⟩)
      · have hK3 := hKD _ hk3
        gi_wp2
        refine ⟨by simp, .inl ⟨_, _, rfl, run_takeDeferred hK3, ?_⟩⟩
        exact ⟨_, results_none rfl _ _ _, ⟨_, rfl⟩, .inl ⟨_, hw.symm, hJ _ _ _ hJ3 (below_putU W3 D2 _ (Nat.le_trans hBw' hk3.1) (by omega))⟩⟩
      · have hK3 := hKD _ hk3
        gi_wp2
        refine ⟨by simp, .inl ⟨_, _, rfl, run_takeDeferred hK3, ?_⟩⟩
        exact ⟨_, results_none rfl _ _ _, ⟨_, rfl⟩, .inr ⟨_, trivial, hJx _ _ _ hJx3 (below_putU W3 D2 _ (Nat.le_trans hBw' hk3.1) (by omega))⟩⟩
  case stop =>
    rintro D2 cd pre W' hD _ ⟨rfl, h⟩ hK
    gi_wp2
    refine ⟨by simp, .inl ⟨_, _, rfl, run_takeDeferred hK, ?_⟩⟩
    have hput := below_putU W' D2 (.deferred none) (B := W.heap.size) (by have := heap_ltU hK; omega) (by omega)
    refine ⟨_, results_none rfl _ _ _, ⟨_, rfl⟩, h.imp (fun ⟨ys, e, h2⟩ => ⟨ys, e, hJ _ _ _ h2 hput⟩) (fun ⟨ys, e, h2⟩ => ⟨ys, e, hJx _ _ _ h2 hput⟩)⟩
theorem ut_way1_B (n : Nat) (hn : 2 ≤ n) (Bt bits v len : Nat) (hv : v < 2 ^ 128) (hlb : len ≤ bits) (hb8 : bits ≤ 128) (D : Nat → Prop) (w : World)
    {X N : Nat} {A : Pth → Option Nat} {c : Pth → Nat} {th : Pth → Bool} {id : Pth → Int} (hT : TrieM w X bits A c th id N) (hDX : ¬ D X) (hDA : ∀ p b, A p = some b → ¬ D b) (hDl : ∀ j, D j → j < w.heap.size + 2)
    (b0 : w.heap[Bt]? = some (.cells #[.pointer (some ⟨X, 0, none⟩)] 54 (0, 0))) (b1 : w.heap[Bt + 1]? = some (.cells #[.int .u64 (hi v), .int .u64 (lo v)] 29 (0, 0))) (b2 : w.heap[Bt + 2]? = some (.cells #[.int .i64 len] 3 (0, 0))) :
    SeqB2 n Try.prog 94 #[.pointer (some ⟨Bt, 0, none⟩), .pointer (some ⟨Bt + 1, 0, none⟩), .pointer (some ⟨Bt + 2, 0, none⟩)] encWU (fun ys => ys <+: wlU A c [] (pthU bits v len)) (KBU D) (fun ys => ys = wlU A c [] (pthU bits v len)) (fun _ => True) w := fun l J Jx W hW hz hJ hJx hY h0 =>
  ut_way1 n hn l Bt bits v len hv hlb hb8 D J Jx W hJ hJx (hT.below hW) hDX hDA (fun j h => by have := hDl j h; omega) (fun pre x W1 hp h => by
    obtain ⟨fn, tmps, assign, body, hy, hR⟩ := hY pre x W1 hp h
    exact ⟨fn, tmps, assign, body, hy, roundU0 hR⟩) ((hW.block _ (heap_ltU b0)).trans b0) ((hW.block _ (heap_ltU b1)).trans b1) ((hW.block _ (heap_ltU b2)).trans b2) h0
/-- what way leaves: three boxes -/
structure WbU (w : World) (X v n : Nat) (w' : World) : Prop where
  below : Below w.heap.size w w'
  size : w'.heap.size = w.heap.size + 3
  bt : w'.heap[w.heap.size]? = some (.cells #[.pointer (some ⟨X, 0, none⟩)] 54 (0, 0))
  bv : w'.heap[w.heap.size + 1]? = some (.cells #[.int .u64 (hi v), .int .u64 (lo v)] 29 (0, 0))
  bn : w'.heap[w.heap.size + 2]? = some (.cells #[.int .i64 n] 3 (0, 0))
def wvU (B : Nat) : Value := .func (.func 94) #[] #[.pointer (some ⟨B, 0, none⟩), .pointer (some ⟨B + 1, 0, none⟩), .pointer (some ⟨B + 2, 0, none⟩)]
set_option maxRecDepth 100000 in
set_option maxHeartbeats 1000000 in
theorem ut_way (X v n : Nat) (w : World) : Calls Try.prog 73 #[.pointer (some ⟨X, 0, none⟩), .agg #[.int .u64 (hi v), .int .u64 (lo v)], .int .i64 n] w fun e w' => e = .returned (wvU w.heap.size) ∧ Below w.heap.size w w' ∧ WbU w X v n w' := by
  have hend : ∀ w', w' = ((w.alloc (.cells #[.pointer (some ⟨X, 0, none⟩)] 54)).alloc (.cells #[.int .u64 (hi v), .int .u64 (lo v)] 29)).alloc (.cells #[.int .i64 n] 3) → Below w.heap.size w w' ∧ WbU w X v n w' := by
    rintro w' rfl
    have hb : Below w.heap.size w (((w.alloc (.cells #[.pointer (some ⟨X, 0, none⟩)] 54)).alloc (.cells #[.int .u64 (hi v), .int .u64 (lo v)] 29)).alloc (.cells #[.int .i64 n] 3)) := (((Below.refl _ w).alloc (Nat.le_refl _) _).alloc (by simp) _).alloc (by simp; omega) _
    refine ⟨hb, hb, by simp, ?_, ?_, ?_⟩
    · exact (Below.heap_alloc _ _ _ (by simp; omega)).trans ((Below.heap_alloc _ _ _ (by simp)).trans (heap_alloc_new _ _))
    · have h := heap_alloc_new (w.alloc (.cells #[.pointer (some ⟨X, 0, none⟩)] 54)) (.cells #[.int .u64 (hi v), .int .u64 (lo v)] 29)
      rw [World.size_alloc] at h
      exact (Below.heap_alloc _ _ _ (by simp)).trans h
    · have h := heap_alloc_new ((w.alloc (.cells #[.pointer (some ⟨X, 0, none⟩)] 54)).alloc (.cells #[.int .u64 (hi v), .int .u64 (lo v)] 29)) (.cells #[.int .i64 n] 3)
      rwa [World.size_alloc, World.size_alloc] at h
  have HE := Lib.hid hend
  clear hend
  unfold wvU
  go_enter Try.func73, Try.ntmps73
  go_wp2
  go_ret
  exact ⟨rfl, HE.out _ rfl⟩
end Go.Proofs.Ytmlocfojmncghaa
