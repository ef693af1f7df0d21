/- Layer 8: the program's Check. -/
import Derived.Test.YtodmkmoglchoeaaDoorTVars
import Derived.Maps.OwnOps
namespace Go.Proofs.YtodmkmoglchoeaaDoor
open Go.RowKit Go.Maps

def opTab : List (Nat × Nat × Nat) := [(0, 0, 0), (0, 0, 1), (0, 0, 2), (0, 0, 1), (1, 1, 1), (1, 2, 2), (2, 1, 1), (2, 1, 1), (2, 3, 2), (2, 3, 2), (2, 1, 2), (2, 1, 2), (2, 1, 2), (2, 1, 2), (2, 2, 2), (2, 2, 2), (2, 2, 2)]
def opN (o : Nat) : Nat := (opTab.getD o (0, 0, 0)).1
def opK (o : Nat) : Nat := (opTab.getD o (0, 0, 0)).2.1
def opM (o : Nat) : Nat := (opTab.getD o (0, 0, 0)).2.2
theorem opM_is : ∀ o, o < 17 → 1 ≤ o → opM o = typO o := by decide
theorem opN_le : ∀ o, o < 17 → opN o ≤ 2 ∧ opK o ≤ 3 ∧ opM o ≤ 2 := by decide
theorem fit_is : ∀ o, o < 17 → 1 ≤ o → ∀ x, x < 3 → ∀ y, y < 3 → fitO o x y = (if opN o = 0 then true else if opN o = 1 then decide (x &&& opK o ≠ 0) else (decide (x = y) && decide (x &&& opK o ≠ 0))) := by decide
/-- the table of operators in memory -/
structure TypY (w : World) : Prop where
  lt : 1 < w.heap.size
  c : ∀ i, i < 17 → w.cell? ⟨1, i * 3, none⟩ = some (.int .i64 (opN i : Nat)) ∧ w.cell? ⟨1, i * 3 + 1, none⟩ = some (.int .i64 (opK i : Nat)) ∧ w.cell? ⟨1, i * 3 + 2, none⟩ = some (.int .i64 (opM i : Nat))
theorem TypY.below {B : Nat} {w w' : World} (h : TypY w) (hb : Below B w w') (hB : 1 < B) : TypY w' := ⟨Nat.lt_of_lt_of_le h.lt hb.size, fun i hi => by rw [hb.cell (p := ⟨1, _, none⟩) hB, hb.cell (p := ⟨1, _, none⟩) hB, hb.cell (p := ⟨1, _, none⟩) hB]; exact h.c i hi⟩
set_option maxRecDepth 100000 in
set_option maxHeartbeats 1000000 in
theorem ty_op (w : World) (o : Nat) (ho : o < 17) (hy : TypY w) : Calls Tryd.prog 72 #[.int .i64 o] w (RetX (.agg #[.int .i64 (opN o : Nat), .int .i64 (opK o : Nat), .int .i64 (opM o : Nat)]) w) := by
  obtain ⟨c0, c1, c2⟩ := hy.c o ho
  have hlt := hy.lt
  obtain ⟨x, hx⟩ : ∃ x, x = opN o := ⟨_, rfl⟩
  obtain ⟨y, hyy⟩ : ∃ x, x = opK o := ⟨_, rfl⟩
  obtain ⟨z, hz⟩ : ∃ x, x = opM o := ⟨_, rfl⟩
  rw [← hx] at c0 ⊢
  rw [← hyy] at c1 ⊢
  rw [← hz] at c2 ⊢
  have h0 : ¬ (o : Int) < 0 := by omega
  have h1 : ¬ (17 : Int) ≤ (o : Int) := by omega
  have h2 : (o : Int) < 17 := by omega
  clear hx hyy hz hy
  go_enter Tryd.func72, Tryd.ntmps72
  go_wp2
  exact bodyPost_ret (v := .agg #[.int .i64 (x : Nat), .int .i64 (y : Nat), .int .i64 (z : Nat)]) (by simp [results, Tryd.results72, go_sem]) rfl ⟨rfl, (Below.refl _ _).alloc (Nat.le_refl _) _⟩
set_option maxRecDepth 100000 in
theorem run_opr2 (x y z : Int) (w : World) : (Instr.field 189 (.agg #[.int .i64 x, .int .i64 y, .int .i64 z]) 2).run Tryd.prog w = .ok (.int .i64 z) w := by
  first | rfl | kernel_rfl
theorem typAt_le (o : List Nd) (i : Nat) : typAt o i < 3 := by
  unfold typAt typO
  split
  · split <;> omega
  · omega
set_option maxRecDepth 100000 in
set_option maxHeartbeats 1000000 in
theorem ty_at (w : World) (A : Option Addr) (n c : Nat) (o : List Nd) (hn : o.length = n) (_hc : n ≤ c) (_hn4 : n ≤ 100000) (h : NodR w A o) (hops : ∀ x ∈ o, 1 ≤ x.op ∧ x.op < 17) (hy : TypY w) (i : Nat) (hi4 : i ≤ 100000) : Calls Tryd.prog 56 #[.slice A n c, .int .i64 i] w (RetX (.int .i64 (typAt o i : Nat)) w) := by
  have h0 : ¬ (i : Int) < 0 := by omega
  by_cases hlt : i < n
  · have hlI : ¬ (n : Int) ≤ (i : Int) := by omega
    have hlJ : (i : Int) < (n : Int) := by omega
    have hk : i < o.length := by omega
    obtain ⟨g, e1, l1, a0, _⟩ := nod_cells h hk
    obtain ⟨q, hq⟩ : ∃ q, q = (o[i]'hk).op := ⟨_, rfl⟩
    have hop := hops _ (List.getElem_mem hk)
    rw [← hq] at a0 hop
    have K := Lib.hid (ty_op w q hop.2 hy)
    have HT : Hid (typAt o i = opM q) := Lib.hid (by unfold typAt; rw [List.getElem?_eq_getElem hk, opM_is q hop.2 hop.1, hq])
    have hf := fun (x y z : Int) (w : World) => run_opr2 x y z w
    clear hq hop h hops hy hn
    subst e1
    go_enter Tryd.func56, Tryd.ntmps56
    go_wp2_with fail
    go_at_call 72
    refine K.out.mono ?_
    rintro e w1 ⟨rfl, hb⟩
    have HB := Lib.hid hb
    clear hb K
    go_wp2_with fail
    go_ret
    exact ⟨by rw [HT.out]; rfl, HB.out⟩
  · have hlI : (n : Int) ≤ (i : Int) := by omega
    have HT : Hid (typAt o i = 0) := Lib.hid (by unfold typAt; rw [List.getElem?_eq_none (by omega)])
    clear h hops hy hn
    go_enter Tryd.func56, Tryd.ntmps56
    go_wp2_with fail
    go_ret
    exact ⟨by rw [HT.out]; rfl, Below.refl _ _⟩
set_option maxRecDepth 100000 in
set_option maxHeartbeats 1000000 in
theorem ty_at_neg (w : World) (A : Option Addr) (n c : Nat) : Calls Tryd.prog 56 #[.slice A n c, .int .i64 (-1)] w (RetX (.int .i64 0) w) := by
  go_enter Tryd.func56, Tryd.ntmps56
  go_wp2_with fail
  go_ret
  exact ⟨rfl, Below.refl _ _⟩
theorem band_small : ∀ x, x < 3 → ∀ q, q < 4 → bits .and .i64 ((x : Nat) : Int) ((q : Nat) : Int) = ((x &&& q : Nat) : Int) := by decide
/-- operandsFit's boxes -/
structure FitB (w : World) (kb : Nat) (a b : Nat) (x y : Int) (w' : World) : Prop where
  below : Below w.heap.size w w'
  lo : w.heap.size < kb
  size : kb < w'.heap.size
  ca : w'.cell? ⟨w.heap.size, 1, none⟩ = some (.int .i64 a)
  cb : w'.cell? ⟨w.heap.size, 2, none⟩ = some (.int .i64 b)
  c0 : w'.cell? ⟨kb, 0, none⟩ = some (.int .i64 x)
  c1 : w'.cell? ⟨kb, 1, none⟩ = some (.int .i64 y)
theorem FitB.call {w : World} {kb a b : Nat} {x y : Int} {w1 w2 : World} (h : FitB w kb a b x y w1) (hb : Below w1.heap.size w1 w2) : FitB w kb a b x y w2 := by
  have h0 := h.lo
  have h1 := h.size
  exact ⟨h.below.trans (hb.mono (by omega)), h0, Nat.lt_of_lt_of_le h1 hb.size, (hb.cell (p := ⟨w.heap.size, 1, none⟩) (by show w.heap.size < _; omega)).trans h.ca, (hb.cell (p := ⟨w.heap.size, 2, none⟩) (by show w.heap.size < _; omega)).trans h.cb, (hb.cell (p := ⟨kb, 0, none⟩) h1).trans h.c0, (hb.cell (p := ⟨kb, 1, none⟩) h1).trans h.c1⟩
theorem FitB.drew {w : World} {kb a b : Nat} {x y : Int} {w1 : World} (h : FitB w kb a b x y w1) : FitB w kb a b x y w1.drew := h.call (Below.refl _ _).drew
theorem FitB.all {w : World} {kb a b : Nat} {x y : Int} {w1 : World} (h : FitB w kb a b x y w1) : FitB w kb a b x y w1 ∧ w1.cell? ⟨w.heap.size, 1, none⟩ = some (.int .i64 a) ∧ w1.cell? ⟨w.heap.size, 2, none⟩ = some (.int .i64 b) := ⟨h, h.ca, h.cb⟩
set_option maxRecDepth 100000 in
set_option maxHeartbeats 4000000 in
theorem ty_fit (w : World) (A : Option Addr) (n c : Nat) (o : List Nd) (hn : o.length = n) (hc : n ≤ c) (hn4 : n ≤ 100000) (h : NodR w A o) (hops : ∀ x ∈ o, 1 ≤ x.op ∧ x.op < 17) (hy : TypY w) (op a b : Nat) (nm at_ : ByteArray) (u t : Int) (ho : op < 17) (ho1 : 1 ≤ op) (ha4 : a ≤ 100000) (hb4 : b ≤ 100000) :
    Calls Tryd.prog 55 #[.agg #[.int .i64 op, .int .i64 a, .int .i64 b, .string nm, .string at_, .int .u64 u, .int .u64 t], .slice A n c] w (RetX (.bool (fitO op (typAt o a) (typAt o b))) w) := by
  have K1 : Hid (∀ W, Below w.heap.size w W → Calls Tryd.prog 56 #[.slice A n c, .int .i64 a] W (RetX (.int .i64 (typAt o a : Nat)) W)) := Lib.hid fun W hW => ty_at W A n c o hn hc hn4 (h.below hW) hops (hy.below hW hy.lt) a ha4
  have K2 : Hid (∀ W, Below w.heap.size w W → Calls Tryd.prog 56 #[.slice A n c, .int .i64 b] W (RetX (.int .i64 (typAt o b : Nat)) W)) := Lib.hid fun W hW => ty_at W A n c o hn hc hn4 (h.below hW) hops (hy.below hW hy.lt) b hb4
  have K0 : Hid (∀ W, Below w.heap.size w W → Calls Tryd.prog 72 #[.int .i64 op] W (RetX (.agg #[.int .i64 (opN op : Nat), .int .i64 (opK op : Nat), .int .i64 (opM op : Nat)]) W)) := Lib.hid fun W hW => ty_op W op ho (hy.below hW hy.lt)
  have HF := Lib.hid (fit_is op ho ho1 (typAt o a) (typAt_le o a) (typAt o b) (typAt_le o b))
  have hle := opN_le op ho
  have hx3 := typAt_le o a
  have hy3 := typAt_le o b
  generalize typAt o a = x at K1 HF hx3 ⊢
  generalize typAt o b = y at K2 HF hy3 ⊢
  generalize opN op = p at K0 HF hle
  generalize opK op = q at K0 HF hle
  generalize opM op = r at K0 hle
  generalize fitO op x y = ans at HF ⊢
  clear h hops hy hn hc hn4 ho ho1 ha4 hb4
  go_enter Tryd.func55, Tryd.ntmps55
  go_wp2_with fail
  go_at_call 72
  refine (K0.out _ ((Below.refl _ _).alloc (Nat.le_refl _) _)).mono ?_
  rintro e w1 ⟨rfl, hb⟩
  have hsz := hb.size
  rw [World.size_alloc] at hsz
  have hbx : FitB w w1.heap.size a b p q (w1.alloc (.cells #[.int .i64 p, .int .i64 q, .int .i64 r] 189)) := by
    refine ⟨(((Below.refl _ _).alloc (Nat.le_refl _) _).trans (hb.mono (by simp))).alloc (by omega) _, by omega, by simp, ?_, ?_, ?_, ?_⟩
    · rw [World.cell?_alloc_old w1 _ ⟨w.heap.size, 1, none⟩ (by show w.heap.size ≠ _; omega), hb.cell (p := ⟨w.heap.size, 1, none⟩) (by simp), World.cell?_alloc_new]; rfl
    · rw [World.cell?_alloc_old w1 _ ⟨w.heap.size, 2, none⟩ (by show w.heap.size ≠ _; omega), hb.cell (p := ⟨w.heap.size, 2, none⟩) (by simp), World.cell?_alloc_new]; rfl
    · rw [World.cell?_alloc_new]; rfl
    · rw [World.cell?_alloc_new]; rfl
  have HX := Lib.hid hbx
  obtain ⟨kb, hkb⟩ : ∃ k, w1.heap.size = k := ⟨_, rfl⟩
  obtain ⟨W, hW⟩ : ∃ W, w1.alloc (.cells #[.int .i64 p, .int .i64 q, .int .i64 r] 189) = W := ⟨_, rfl⟩
  rw [hkb, hW] at HX
  clear hbx hb hsz K0
  go_upto_region 2 with fail
  try rw [hW]
  try rw [hkb]
  clear hW hkb
  go_region_held3 (fun w' => FitB w kb a b p q w' ∧ w'.cell? ⟨w.heap.size, 1, none⟩ = some (.int .i64 a) ∧ w'.cell? ⟨w.heap.size, 2, none⟩ = some (.int .i64 b))
    (first
      | exact (FitB.drew HX.out).all
      | exact (FitB.call (And.left (by assumption)) (by assumption)).all)
    ((go_at_call 56; (first
      | ((with_reducible refine (K1.out _ (FitB.below (And.left (by assumption)))).mono ?_); (rintro e w2 ⟨rfl, hb2⟩))
      | ((with_reducible refine (K2.out _ (FitB.below (And.left (by assumption)))).mono ?_); (rintro e w3 ⟨rfl, hb3⟩)))))
  all_goals
    try simp only [Exit.then]
    try apply_assumption
  have h3 : FitB w kb a b p q w3 := And.left (by assumption)
  have c0 := h3.c0
  have c1 := h3.c1
  have HBF := Lib.hid h3.below
  clear h3 hb2 hb3 K1 K2 HX
  have hband := band_small x hx3 q (by omega)
  obtain ⟨v, hv⟩ : ∃ v, v = x &&& q := ⟨_, rfl⟩
  rw [← hv] at hband HF
  clear hv
  have hp3 : p = 0 ∨ p = 1 ∨ p = 2 := by omega
  rcases hp3 with rfl | rfl | rfl
  · have ha : ans = true := by rw [HF.out]; rfl
    subst ha
    clear HF hband
    go_wp2_with fail
    go_ret
    exact ⟨rfl, HBF.out⟩
  · by_cases hv0 : v = 0
    · subst hv0
      have ha : ans = false := by rw [HF.out]; rfl
      subst ha
      clear HF
      go_wp2_with fail
      go_ret
      exact ⟨by first | rfl | simp, HBF.out⟩
    · have ha : ans = true := by rw [HF.out]; simp [hv0]
      subst ha
      have hvI : ((v : Int) != 0) = true := by simp; omega
      have hvJ : ¬ (v : Int) = 0 := by omega
      clear HF
      go_wp2_with fail
      go_ret
      exact ⟨by first | rfl | simp [hv0], HBF.out⟩
  · by_cases hxy : x = y
    · subst hxy
      by_cases hv0 : v = 0
      · subst hv0
        have ha : ans = false := by rw [HF.out]; simp
        subst ha
        clear HF
        go_wp2_with fail
        go_ret
        exact ⟨by first | rfl | simp, HBF.out⟩
      · have ha : ans = true := by rw [HF.out]; simp [hv0]
        subst ha
        have hvI : ((v : Int) != 0) = true := by simp; omega
        have hvJ : ¬ (v : Int) = 0 := by omega
        clear HF
        go_wp2_with fail
        go_ret
        exact ⟨by first | rfl | simp [hv0], HBF.out⟩
    · have ha : ans = false := by rw [HF.out]; simp [hxy]
      subst ha
      have hxI : ((x : Int) == (y : Int)) = false := by rw [beq_eq_false_iff_ne]; omega
      have hxJ : ¬ (x : Int) = (y : Int) := by omega
      clear HF
      go_wp2_with fail
      go_ret
      exact ⟨by first | rfl | simp, HBF.out⟩
end Go.Proofs.YtodmkmoglchoeaaDoor
