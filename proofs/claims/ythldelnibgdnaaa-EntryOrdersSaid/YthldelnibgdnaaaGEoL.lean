/- EntryOrders is proved: for every input the law returns true, and every argument reads afterwards as before. No condition. -/
import Derived.Test.YthldelnibgdnaaaGEoW
import Derived.Test.YthldelnibgdnaaaGEOp
import Derived.SizedLaws
namespace Go.Proofs.Ythldelnibgdnaaa.entryOrders
open Go.ChangeShapes Go.WideShapes Go.ChangeAt Go.RowKit Go.Joins Go.Deep
section
variable {H : Type} {enc : TypeId × Value → H} {w : World} {b0 : Nat} {v : Value} {d : DataW H} {p : List MemPlace}
set_option maxRecDepth 100000 in
theorem slice_reach {t e : TypeId} {k bt : Nat} {A : Option Addr} {n c : Nat} {x : DataW H × List MemPlace} (ht : Try.prog.underlying t = some (.slice e)) (hb : Try.prog.bytesOf e = bt) (h : DataW.trod enc Try.prog w 0 (fun _ => true) true k t [.slice A n c] = some x) (hw : ∀ n ∈ x.1.weights Try.prog t, n ≤ reachBytes) : n * bt ≤ reachBytes := by
  rcases open_slice ht h with ⟨h1, _⟩ | ⟨a, len, cap, mm, nn, D, Pl, h1, _, _, _, _, rfl, _⟩
  · injection h1 with h1 _
    injection h1 with _ h1 _
    subst h1
    simp
  · injection h1 with h1 _
    injection h1 with _ h1 _
    subst h1
    have := hw ((((List.range n).map D).length + ((List.range (mm - n)).map fun j => D (n + j)).length) * Try.prog.bytesOf e) (by simp [DataW.weights, ht])
    rw [hb, List.length_map, List.length_range] at this
    exact Nat.le_trans (Nat.mul_le_mul_right _ (Nat.le_add_right _ _)) this
set_option maxRecDepth 100000 in
theorem open_entryS (hv : Value.okWide Try.prog w .any b0 26 v) (h : DataW.Trod enc Try.prog w 0 (fun _ => true) true 26 v d p) (hw : ∀ n ∈ d.weights Try.prog 26, n ≤ reachBytes) : ∃ (e : EntryD) (A : Option Addr) (n c : Nat) (A2 : Option Addr) (n2 c2 : Nat), v = .agg #[.int .i64 e.table, .slice A n c, .int .i64 e.prio, .int .i64 e.action, .slice A2 n2 c2] ∧ RowV 8 MatchV w.heap.size w (.slice A n c) e.ms ∧ RowV 2 ValV w.heap.size w (.slice A2 n2 c2) e.args ∧ n * 64 ≤ reachBytes ∧ n2 * 16 ≤ reachBytes := by
  obtain ⟨e, A, n, c, A2, n2, c2, rfl, h1, h2, _⟩ := open_entry hv h
  obtain ⟨fuel, hf⟩ := h
  have hf2 : DataW.trod enc Try.prog w 0 (fun _ => true) true fuel 26 [.int .i64 e.table, .slice A n c, .int .i64 e.prio, .int .i64 e.action, .slice A2 n2 c2] = some (d, p) := by simpa [Value.cells] using hf
  obtain ⟨xs, m, _, hx, _, hxl, hg⟩ := DataW.trod_struct Try.underlying26 hf2
  injection hx with hd _
  subst hd
  match xs, hxl with
  | [x0, x1, x2, x3, x4], _ =>
    have g1 : DataW.trod enc Try.prog w 0 (fun _ => true) true m 23 [.slice A n c] = some x1 := hg 1 _ rfl
    have g4 : DataW.trod enc Try.prog w 0 (fun _ => true) true m 24 [.slice A2 n2 c2] = some x4 := hg 4 _ rfl
    have hq : ∀ k ∈ DataW.weightsEach Try.prog [3, 23, 3, 3, 24] [x0.1, x1.1, x2.1, x3.1, x4.1], k ≤ reachBytes := fun k hk => hw k (by
      simp only [DataW.weights, Try.underlying26]
      exact hk)
    exact ⟨e, A, n, c, A2, n2, c2, rfl, h1, h2, slice_reach (e := 75) Try.underlying23 (by kernel_rfl) g1 fun k hk => hq k (DataW.weights_mem_each (j := 1) rfl rfl k hk), slice_reach (e := 29) Try.underlying24 (by kernel_rfl) g4 fun k hk => hq k (DataW.weights_mem_each (j := 4) rfl rfl k hk)⟩
end
set_option maxRecDepth 100000 in
theorem lifted (os : Os) (started : os.Started) (H : Type) (enc : TypeId × Value → H) :
    ReturnsInHanded {} Try.checked os 3 .any (Rows.entryOrdersSpec.pre6 enc Try.prog Try.f3 Rows.entryOrdersRow.domain false) (Rows.entryOrdersSpec.post enc Try.prog Try.f3 false true false false) := by
  refine returnsInHanded_of_change_sized (C := Try.checked) own started (by kernel_rfl) Try.func3
    (ChangeSpec.witness6 (enc := enc) (C := Try.checked) false ⟨#[], #[.slice none 0 0, .slice none 0 0, .agg #[.int .i64 0, .slice none 0 0, .int .i64 0, .int .i64 0, .slice none 0 0], .int .i64 0, .int .i64 0, .agg #[.int .u64 0, .int .u64 0]], []⟩ 8 (by kernel_rfl) (by kernel_rfl) (by kernel_rfl) (by kernel_rfl)) ?_
  intro W base args ds gs before hval0 hW hcnd hwt _
  have hval : ∀ (j : Nat) t v, Try.f3.params[j]? = some t → args[j]? = some v → Value.okWide Try.prog W .any base t v := hval0
  have hW' := hW
  obtain ⟨p, q, hA0, hV, rfl, hfz, hnd⟩ := hW
  have hA : DataW.TrodAll enc Try.prog W 0 (fun _ => true) true Try.f3.params.toList args.toList ds p := hA0
  rw [Try.params3] at hA hval
  obtain ⟨v0, vs0, d0, ds0, p0, q0, hargs, rfl, rfl, h0, r0⟩ := trodAll_cons hA
  obtain ⟨v1, vs1, d1, ds1, p1, q1, rfl, rfl, rfl, h1, r1⟩ := trodAll_cons r0
  obtain ⟨v2, vs2, d2, ds2, p2, q2, rfl, rfl, rfl, h2, r2⟩ := trodAll_cons r1
  obtain ⟨v3, vs3, d3, ds3, p3, q3, rfl, rfl, rfl, h3, r3⟩ := trodAll_cons r2
  obtain ⟨v4, vs4, d4, ds4, p4, q4, rfl, rfl, rfl, h4, r4⟩ := trodAll_cons r3
  obtain ⟨v5, vs5, d5, ds5, p5, q5, rfl, rfl, rfl, h5, r5⟩ := trodAll_cons r4
  obtain ⟨rfl, rfl, rfl⟩ := trodAll_nil r5
  obtain rfl : args = #[v0, v1, v2, v3, v4, v5] := by cases args; simp_all
  obtain ⟨rfl, rfl⟩ := trodVars_none hV
  have k0 := h0
  have lt0 : ∀ x ∈ p0, x.block < W.heap.size := by obtain ⟨m, hm⟩ := k0; exact DataW.trod_lt m _ _ _ hm
  obtain ⟨a0, len0, cap0, rfl⟩ := okWide_slice Try.underlying22 (hval 0 22 v0 rfl rfl)
  obtain ⟨g0, c0, e0, w0⟩ := open_row h0
  obtain ⟨D0, l0, hl0, hs0, hr0, hd0⟩ := rd_list w0
  have k1 := h1
  have lt1 : ∀ x ∈ p1, x.block < W.heap.size := by obtain ⟨m, hm⟩ := k1; exact DataW.trod_lt m _ _ _ hm
  obtain ⟨a1, len1, cap1, rfl⟩ := okWide_slice Try.underlying22 (hval 1 22 v1 rfl rfl)
  obtain ⟨g1, c1, e1, w1⟩ := open_row h1
  obtain ⟨D1, l1, hl1, hs1, hr1, hd1⟩ := rd_list w1
  have k2 := h2
  have lt2 : ∀ x ∈ p2, x.block < W.heap.size := by obtain ⟨m, hm⟩ := k2; exact DataW.trod_lt m _ _ _ hm
  have hw2 : ∀ n ∈ d2.weights Try.prog 26, n ≤ reachBytes := fun n hn => of_decide_eq_true (List.all_eq_true.1 hwt _ (DataW.weights_mem_each (j := 2) (t := 26) (d := d2) (by kernel_rfl) rfl n hn))
  obtain ⟨y2, A2, nx2, cx2, B2, ny2, cy2, rfl, rw2, ru2, bn2, bm2⟩ := open_entryS (hval 2 26 v2 rfl rfl) h2 hw2
  have k3 := h3
  have lt3 : ∀ x ∈ p3, x.block < W.heap.size := by obtain ⟨m, hm⟩ := k3; exact DataW.trod_lt m _ _ _ hm
  obtain ⟨x3, rfl, _, _, w3⟩ := open_int Try.underlying3 (hval 3 3 v3 rfl rfl) h3
  have k4 := h4
  have lt4 : ∀ x ∈ p4, x.block < W.heap.size := by obtain ⟨m, hm⟩ := k4; exact DataW.trod_lt m _ _ _ hm
  obtain ⟨x4, rfl, _, _, w4⟩ := open_int Try.underlying3 (hval 4 3 v4 rfl rfl) h4
  have k5 := h5
  have lt5 : ∀ x ∈ p5, x.block < W.heap.size := by obtain ⟨m, hm⟩ := k5; exact DataW.trod_lt m _ _ _ hm
  obtain ⟨n5, b5, rfl⟩ := open_val (hval 5 29 v5 rfl rfl) h5
  clear hA0 hval0
  unfold reachBytes at bn2 bm2
  refine (eorders_any W a0 D0 len0 cap0 l0 hr0 hd0 hl0 c0 e0 hs0 a1 D1 len1 cap1 l1 hr1 hd1 hl1 c1 e1 hs1 x3 x4 (i64_of_wf w4) n5 b5 y2 A2 nx2 cx2 rw2 B2 ny2 cy2 ru2 (by omega) (by omega)).mono fun e W' ⟨he, bel⟩ => ?_
  subst he
  exact ⟨_, rfl, _, _, _, [], _, [], hW', trodAll_mk1 (shut_bool Try.underlying4 _), (trodAll_cons_mk (Below.trod laidOut (by kernel_rfl) (of_decide_eq_true (by kernel_rfl)) k0 bel lt0) (trodAll_cons_mk (Below.trod laidOut (by kernel_rfl) (of_decide_eq_true (by kernel_rfl)) k1 bel lt1) (trodAll_cons_mk (Below.trod laidOut (by kernel_rfl) (of_decide_eq_true (by kernel_rfl)) k2 bel lt2) (trodAll_cons_mk (Below.trod laidOut (by kernel_rfl) (of_decide_eq_true (by kernel_rfl)) k3 bel lt3) (trodAll_cons_mk (Below.trod laidOut (by kernel_rfl) (of_decide_eq_true (by kernel_rfl)) k4 bel lt4) (trodAll_cons_mk (Below.trod laidOut (by kernel_rfl) (of_decide_eq_true (by kernel_rfl)) k5 bel lt5) trodAll_mk0)))))), rfl, bel.frame _, fun h => by cases h⟩

theorem holds : Rows.EntryOrdersSaid :=
  OpenClaim.holds_of_wide 3 Try.f3 rfl rfl rfl rfl rfl rfl rfl ⟨rfl, rfl, rfl, rfl, rfl⟩ rfl rfl rfl rfl rfl (by kernel_rfl) Try.func3 (by kernel_rfl)
    (of_decide_eq_true (by kernel_rfl)) (by unfold Func.isWrapper; rw [if_neg (of_decide_eq_false (by kernel_rfl))]; exact ⟨rfl, rfl⟩)
    (fun os started H enc _ => lifted os started H enc)
#print axioms holds
end Go.Proofs.Ythldelnibgdnaaa.entryOrders
